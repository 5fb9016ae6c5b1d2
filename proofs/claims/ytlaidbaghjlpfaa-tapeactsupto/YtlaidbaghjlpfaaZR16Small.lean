/-
  What cartoucheref16.New, Arm, Sync and Write answer.
-/
import Derived.Test.YtlaidbaghjlpfaaGT
import Derived.Test.YtlaidbaghjlpfaaGK
import Derived.BigQuiet
import Derived.Deep.QuietTactic
import Derived.StillTailTactics
namespace Go.Proofs.Ytlaidbaghjlpfaa
set_option maxRecDepth 100000
open Go.RowKit
set_option linter.unusedVariables false
attribute [local go_sem] ba_size ba_append ba_extract
theorem rnew16_any (n : Int) (w : World) :
    Calls Try.prog 11 #[.int .i64 n] w fun e w' => e = .returned (.tuple #[tpV (newT n).1, .int .i64 (newT n).2]) ∧ Below w.heap.size w w' := by
  unfold newT tpV tpC
  by_cases h : n < 0
  · rw [if_pos h]
    go_enter Try.func11, Try.ntmps11
    go_wp2_with fail
    exact bodyPost_ret (results_tp2 Try.results11 _ _ w.heap.size _ rfl rfl (SBox.new w _ _)) rfl ⟨rfl, bel1 w _⟩
  · rw [if_neg h]
    go_enter Try.func11, Try.ntmps11
    go_wp2_with fail
    exact bodyPost_ret (results_tp2 Try.results11 _ _ w.heap.size _ rfl rfl (SBox.new w _ _)) rfl ⟨rfl, bel1 w _⟩
theorem rarm16_any (s p : List UInt8) (r f : Int) (o : Bool) (n : Int) (w : World) :
    Calls Try.prog 22 #[tpV (s, p, r, f, o), .int .i64 n] w fun e w' => e = .returned (tpV (armT (s, p, r, f, o) n)) ∧ Below w.heap.size w w' := by
  unfold armT tpV tpC
  cases o
  · rw [if_neg (by simp)]
    by_cases h : n < 0
    · rw [if_pos h]
      go_enter Try.func22, Try.ntmps22
      go_wp2_with fail
      exact bodyPost_ret (results_tp Try.results22 _ _ (w.heap.size + 1) _ rfl rfl (sbox2 _ _ _ _)) rfl ⟨rfl, bel2 w _ _⟩
    · rw [if_neg h]
      go_enter Try.func22, Try.ntmps22
      go_wp2_with fail
      exact bodyPost_ret (results_tp Try.results22 _ _ (w.heap.size + 1) _ rfl rfl (sbox2 _ _ _ _)) rfl ⟨rfl, bel2 w _ _⟩
  · rw [if_pos rfl]
    go_enter Try.func22, Try.ntmps22
    go_wp2_with fail
    exact bodyPost_ret (results_tp Try.results22 _ _ (w.heap.size + 1) _ rfl rfl (sbox2 _ _ _ _)) rfl ⟨rfl, bel2 w _ _⟩
theorem rsync16_any (s p : List UInt8) (r f : Int) (o : Bool) (hs : s.length ≤ 274877906944) (hp : p.length ≤ 274877906944) (w : World) :
    Calls Try.prog 15 #[tpV (s, p, r, f, o)] w fun e w' => e = .returned (.tuple #[tpV (syncT (s, p, r, f, o)).1, .int .i64 (syncT (s, p, r, f, o)).2]) ∧ Below w.heap.size w w' := by
  unfold syncT tpV tpC
  have z1 : s.length + p.length ≤ 9223372036854775807 := by omega
  cases o
  · rw [if_neg (by simp)]
    go_enter Try.func15, Try.ntmps15
    go_wp2_with fail
    exact bodyPost_ret (results_tp2 Try.results15 _ _ (w.heap.size + 1) _ rfl rfl (sbox2 _ _ _ _)) rfl ⟨rfl, bel2 w _ _⟩
  · rw [if_pos rfl]
    go_enter Try.func15, Try.ntmps15
    go_wp2_with fail
    exact bodyPost_ret (results_tp2 Try.results15 _ _ (w.heap.size + 1) _ rfl rfl (sbox2 _ _ _ _)) rfl ⟨rfl, bel2 w _ _⟩
theorem hmx16r : Try.prog.follows .mixedOrders = true := by kernel_rfl
set_option maxHeartbeats 2000000 in
theorem rwrite16_any (s p rec : List UInt8) (r f : Int) (o : Bool) (hg : goodT (s, p, r, f, o)) (hl : rec.length ≤ 9223372036854775807) (w : World) :
    Calls Try.prog 13 #[tpV (s, p, r, f, o), .string ⟨rec.toArray⟩] w fun e w' => e = .returned (.tuple #[tpV (writeT (s, p, r, f, o) rec).1, .int .i64 (writeT (s, p, r, f, o) rec).2]) ∧ Below w.heap.size w w' := by
  have hmx := hmx16r
  obtain ⟨⟨g1, g2⟩, ⟨g3, g4⟩, g5, g6⟩ := hg
  simp only at g1 g2 g3 g4 g5 g6
  have X := (SBox.new w 23 #[.string ⟨s.toArray⟩, .string ⟨p.toArray⟩, .int .i64 r, .int .i64 f, .bool o]).alloc (.cells #[.string ⟨#[]⟩, .string ⟨#[]⟩, .int .i64 0, .int .i64 0, .bool false] 23)
  have R := sbox2 w (.cells #[.string ⟨s.toArray⟩, .string ⟨p.toArray⟩, .int .i64 r, .int .i64 f, .bool o] 23) 23 #[.string ⟨#[]⟩, .string ⟨#[]⟩, .int .i64 0, .int .i64 0, .bool false]
  have B0 := bel2 w (.cells #[.string ⟨s.toArray⟩, .string ⟨p.toArray⟩, .int .i64 r, .int .i64 f, .bool o] 23) (.cells #[.string ⟨#[]⟩, .string ⟨#[]⟩, .int .i64 0, .int .i64 0, .bool false] 23)
  unfold writeT laidT tpV tpC
  simp only
  cases o
  · rw [if_neg (by simp)]
    by_cases h1 : 65535 < rec.length
    · rw [if_pos h1]
      go_enter Try.func13, Try.ntmps13
      go_wp2_with fail
      refine (refText_big rec hl h1 _).mono ?_
      rintro e w1 ⟨rfl, b1⟩
      have X1 := X.below b1
      have R1 := R.below b1
      have B1 := bel_trans B0 b1
      have x0 := X1.cell 0 _ rfl
      have x1 := X1.cell 1 _ rfl
      have x2 := X1.cell 2 _ rfl
      have x3 := X1.cell 3 _ rfl
      have x4 := X1.cell 4 _ rfl
      have fx0 := X1.frozen 0
      have fx1 := X1.frozen 1
      have fx2 := X1.frozen 2
      have fx3 := X1.frozen 3
      have fx4 := X1.frozen 4
      have r0 := R1.cell 0 _ rfl
      have r1 := R1.cell 1 _ rfl
      have r2 := R1.cell 2 _ rfl
      have r3 := R1.cell 3 _ rfl
      have r4 := R1.cell 4 _ rfl
      have fr0 := R1.frozen 0
      have fr1 := R1.frozen 1
      have fr2 := R1.frozen 2
      have fr3 := R1.frozen 3
      have fr4 := R1.frozen 4
      clear X R B0
      go_wp2_with fail
      exact bodyPost_ret (results_tp2 Try.results13 _ _ (w.heap.size + 1) _ rfl rfl (R1.put5 _ _ _ _ _)) rfl ⟨rfl, bel_put5 B1 (by omega) _ _ _ _ _⟩
    · rw [if_neg h1]
      have hll := Lm.lenL_le rec.length
      have T := fun W => refText_ok rec h1 W
      obtain ⟨b, hb⟩ : ∃ b, Lm.lenL rec.length ++ rec = b := ⟨_, rfl⟩
      have hbl : b.length ≤ 65538 := by rw [← hb, List.length_append]; omega
      rw [hb] at T ⊢
      clear hb hll hl
      have z1 : p.length + b.length ≤ 9223372036854775807 := by omega
      by_cases h2 : r < (b.length : Int)
      · rw [if_pos h2]
        go_enter Try.func13, Try.ntmps13
        go_wp2_with fail
        refine (T _).mono ?_
        rintro e w1 ⟨rfl, b1⟩
        have X1 := X.below b1
        have R1 := R.below b1
        have B1 := bel_trans B0 b1
        have x0 := X1.cell 0 _ rfl
        have x1 := X1.cell 1 _ rfl
        have x2 := X1.cell 2 _ rfl
        have x3 := X1.cell 3 _ rfl
        have x4 := X1.cell 4 _ rfl
        have fx0 := X1.frozen 0
        have fx1 := X1.frozen 1
        have fx2 := X1.frozen 2
        have fx3 := X1.frozen 3
        have fx4 := X1.frozen 4
        have r0 := R1.cell 0 _ rfl
        have r1 := R1.cell 1 _ rfl
        have r2 := R1.cell 2 _ rfl
        have r3 := R1.cell 3 _ rfl
        have r4 := R1.cell 4 _ rfl
        have fr0 := R1.frozen 0
        have fr1 := R1.frozen 1
        have fr2 := R1.frozen 2
        have fr3 := R1.frozen 3
        have fr4 := R1.frozen 4
        clear X R B0
        go_wp2_with fail
        exact bodyPost_ret (results_tp2 Try.results13 _ _ (w.heap.size + 1) _ rfl rfl (R1.put5 _ _ _ _ _)) rfl ⟨rfl, bel_put5 B1 (by omega) _ _ _ _ _⟩
      · rw [if_neg h2]
        have z2 : wrap64 (r - (b.length : Int)) = r - (b.length : Int) := by unfold wrap64; omega
        by_cases h3 : 0 ≤ f
        · by_cases h4 : f < (b.length : Int)
          · rw [if_pos ⟨h3, h4⟩]
            obtain ⟨k, hk⟩ : ∃ k : Nat, f = (k : Int) := ⟨f.toNat, by omega⟩
            subst hk
            have k1 : (k : Int).toNat = k := by omega
            have k2 : k ≤ b.length := by omega
            have z3 : wrap64 (r - (k : Int)) = r - (k : Int) := by unfold wrap64; omega
            have z4 : p.length + k ≤ 9223372036854775807 := by omega
            have z5 : p.length + min k b.length ≤ 9223372036854775807 := by omega
            rw [k1]
            go_enter Try.func13, Try.ntmps13
            go_wp2_with fail
            refine (T _).mono ?_
            rintro e w1 ⟨rfl, b1⟩
            have X1 := X.below b1
            have R1 := R.below b1
            have B1 := bel_trans B0 b1
            have x0 := X1.cell 0 _ rfl
            have x1 := X1.cell 1 _ rfl
            have x2 := X1.cell 2 _ rfl
            have x3 := X1.cell 3 _ rfl
            have x4 := X1.cell 4 _ rfl
            have fx0 := X1.frozen 0
            have fx1 := X1.frozen 1
            have fx2 := X1.frozen 2
            have fx3 := X1.frozen 3
            have fx4 := X1.frozen 4
            have r0 := R1.cell 0 _ rfl
            have r1 := R1.cell 1 _ rfl
            have r2 := R1.cell 2 _ rfl
            have r3 := R1.cell 3 _ rfl
            have r4 := R1.cell 4 _ rfl
            have fr0 := R1.frozen 0
            have fr1 := R1.frozen 1
            have fr2 := R1.frozen 2
            have fr3 := R1.frozen 3
            have fr4 := R1.frozen 4
            clear X R B0
            go_wp2_with fail
            go_still_tail 6, hmx
            clear x0 fx0 x1 fx1 x2 fx2 x3 fx3 x4 fx4 r0 fr0 r1 fr1 r2 fr2 r3 fr3 r4 fr4
            have X2 := X1.drew
            have R2 := R1.drew
            have B2 := B1.drew
            change wpList _ _ _ _ _ (World.drew w1)
            generalize World.drew w1 = wd at X2 R2 B2 ⊢
            clear X1 R1 B1 b1
            have x0 := X2.cell 0 _ rfl
            have x1 := X2.cell 1 _ rfl
            have x2 := X2.cell 2 _ rfl
            have x3 := X2.cell 3 _ rfl
            have x4 := X2.cell 4 _ rfl
            have fx0 := X2.frozen 0
            have fx1 := X2.frozen 1
            have fx2 := X2.frozen 2
            have fx3 := X2.frozen 3
            have fx4 := X2.frozen 4
            have r0 := R2.cell 0 _ rfl
            have r1 := R2.cell 1 _ rfl
            have r2 := R2.cell 2 _ rfl
            have r3 := R2.cell 3 _ rfl
            have r4 := R2.cell 4 _ rfl
            have fr0 := R2.frozen 0
            have fr1 := R2.frozen 1
            have fr2 := R2.frozen 2
            have fr3 := R2.frozen 3
            have fr4 := R2.frozen 4
            go_wp2_with fail
            exact bodyPost_ret (results_tp2 Try.results13 _ _ (w.heap.size + 1) _ rfl rfl (((((R2.other w.heap.size 1 _ (by omega)).other w.heap.size 2 _ (by omega)).other w.heap.size 3 _ (by omega)).other w.heap.size 4 _ (by omega)).put5 _ _ _ _ _)) rfl ⟨rfl, bel_put5 ((((B2.setCell (p := ⟨w.heap.size, 1, none⟩) (Nat.le_refl _) _).setCell (p := ⟨w.heap.size, 2, none⟩) (Nat.le_refl _) _).setCell (p := ⟨w.heap.size, 3, none⟩) (Nat.le_refl _) _).setCell (p := ⟨w.heap.size, 4, none⟩) (Nat.le_refl _) _) (by omega) _ _ _ _ _⟩
          · rw [if_neg (fun h => h4 h.2), if_pos h3]
            have z3 : wrap64 (f - (b.length : Int)) = f - (b.length : Int) := by unfold wrap64; omega
            go_enter Try.func13, Try.ntmps13
            go_wp2_with fail
            refine (T _).mono ?_
            rintro e w1 ⟨rfl, b1⟩
            have X1 := X.below b1
            have R1 := R.below b1
            have B1 := bel_trans B0 b1
            have x0 := X1.cell 0 _ rfl
            have x1 := X1.cell 1 _ rfl
            have x2 := X1.cell 2 _ rfl
            have x3 := X1.cell 3 _ rfl
            have x4 := X1.cell 4 _ rfl
            have fx0 := X1.frozen 0
            have fx1 := X1.frozen 1
            have fx2 := X1.frozen 2
            have fx3 := X1.frozen 3
            have fx4 := X1.frozen 4
            have r0 := R1.cell 0 _ rfl
            have r1 := R1.cell 1 _ rfl
            have r2 := R1.cell 2 _ rfl
            have r3 := R1.cell 3 _ rfl
            have r4 := R1.cell 4 _ rfl
            have fr0 := R1.frozen 0
            have fr1 := R1.frozen 1
            have fr2 := R1.frozen 2
            have fr3 := R1.frozen 3
            have fr4 := R1.frozen 4
            clear X R B0
            go_wp2_with fail
            exact bodyPost_ret (results_tp2 Try.results13 _ _ (w.heap.size + 1) _ rfl rfl ((((R1.other w.heap.size 1 _ (by omega)).other w.heap.size 2 _ (by omega)).other w.heap.size 3 _ (by omega)).put5 _ _ _ _ _)) rfl ⟨rfl, bel_put5 (((B1.setCell (p := ⟨w.heap.size, 1, none⟩) (Nat.le_refl _) _).setCell (p := ⟨w.heap.size, 2, none⟩) (Nat.le_refl _) _).setCell (p := ⟨w.heap.size, 3, none⟩) (Nat.le_refl _) _) (by omega) _ _ _ _ _⟩
        · rw [if_neg (fun h => h3 h.1), if_neg h3]
          go_enter Try.func13, Try.ntmps13
          go_wp2_with fail
          refine (T _).mono ?_
          rintro e w1 ⟨rfl, b1⟩
          have X1 := X.below b1
          have R1 := R.below b1
          have B1 := bel_trans B0 b1
          have x0 := X1.cell 0 _ rfl
          have x1 := X1.cell 1 _ rfl
          have x2 := X1.cell 2 _ rfl
          have x3 := X1.cell 3 _ rfl
          have x4 := X1.cell 4 _ rfl
          have fx0 := X1.frozen 0
          have fx1 := X1.frozen 1
          have fx2 := X1.frozen 2
          have fx3 := X1.frozen 3
          have fx4 := X1.frozen 4
          have r0 := R1.cell 0 _ rfl
          have r1 := R1.cell 1 _ rfl
          have r2 := R1.cell 2 _ rfl
          have r3 := R1.cell 3 _ rfl
          have r4 := R1.cell 4 _ rfl
          have fr0 := R1.frozen 0
          have fr1 := R1.frozen 1
          have fr2 := R1.frozen 2
          have fr3 := R1.frozen 3
          have fr4 := R1.frozen 4
          clear X R B0
          go_wp2_with fail
          exact bodyPost_ret (results_tp2 Try.results13 _ _ (w.heap.size + 1) _ rfl rfl (((R1.other w.heap.size 1 _ (by omega)).other w.heap.size 2 _ (by omega)).put5 _ _ _ _ _)) rfl ⟨rfl, bel_put5 ((B1.setCell (p := ⟨w.heap.size, 1, none⟩) (Nat.le_refl _) _).setCell (p := ⟨w.heap.size, 2, none⟩) (Nat.le_refl _) _) (by omega) _ _ _ _ _⟩
  · rw [if_pos rfl]
    go_enter Try.func13, Try.ntmps13
    go_wp2_with fail
    exact bodyPost_ret (results_tp2 Try.results13 _ _ (w.heap.size + 1) _ rfl rfl (sbox2 _ _ _ _)) rfl ⟨rfl, bel2 w _ _⟩
end Go.Proofs.Ytlaidbaghjlpfaa
