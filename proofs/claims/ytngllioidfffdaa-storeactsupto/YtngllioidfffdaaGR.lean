/-
  What cartoucheref16.New, Arm, Sync and Write answer.
  What cartoucheref16.Scan answers.
  What cartoucheref16.Read and cartoucheref16.Crash answer.
  The answer's contracts of tapes, as a walk takes them.
-/
import Derived.Test.YtngllioidfffdaaGT
import Derived.Test.YtngllioidfffdaaGK
import Derived.BigQuiet
import Derived.Deep.QuietTactic
import Derived.StillTailTactics
import Derived.Test.YtngllioidfffdaaGS
import Derived.Test.YtngllioidfffdaaGU
namespace Go.Proofs.Ytngllioidfffdaa
set_option maxRecDepth 100000
open Go.RowKit
set_option linter.unusedVariables false
attribute [local go_sem] ba_size ba_append ba_extract
theorem rnew16_any (n : Int) (w : World) :
    Calls Try.prog 39 #[.int .i64 n] w fun e w' => e = .returned (.tuple #[tpV (newT n).1, .int .i64 (newT n).2]) ∧ Below w.heap.size w w' := by
  unfold newT tpV tpC
  by_cases h : n < 0
  · rw [if_pos h]
    go_enter Try.func39, Try.ntmps39
    go_wp2_with fail
    exact bodyPost_ret (results_tp2 Try.results39 _ _ w.heap.size _ rfl rfl (SBox.new w _ _)) rfl ⟨rfl, bel1 w _⟩
  · rw [if_neg h]
    go_enter Try.func39, Try.ntmps39
    go_wp2_with fail
    exact bodyPost_ret (results_tp2 Try.results39 _ _ w.heap.size _ rfl rfl (SBox.new w _ _)) rfl ⟨rfl, bel1 w _⟩
theorem rarm16_any (s p : List UInt8) (r f : Int) (o : Bool) (n : Int) (w : World) :
    Calls Try.prog 41 #[tpV (s, p, r, f, o), .int .i64 n] w fun e w' => e = .returned (tpV (armT (s, p, r, f, o) n)) ∧ Below w.heap.size w w' := by
  unfold armT tpV tpC
  cases o
  · rw [if_neg (by simp)]
    by_cases h : n < 0
    · rw [if_pos h]
      go_enter Try.func41, Try.ntmps41
      go_wp2_with fail
      exact bodyPost_ret (results_tp Try.results41 _ _ (w.heap.size + 1) _ rfl rfl (sbox2 _ _ _ _)) rfl ⟨rfl, bel2 w _ _⟩
    · rw [if_neg h]
      go_enter Try.func41, Try.ntmps41
      go_wp2_with fail
      exact bodyPost_ret (results_tp Try.results41 _ _ (w.heap.size + 1) _ rfl rfl (sbox2 _ _ _ _)) rfl ⟨rfl, bel2 w _ _⟩
  · rw [if_pos rfl]
    go_enter Try.func41, Try.ntmps41
    go_wp2_with fail
    exact bodyPost_ret (results_tp Try.results41 _ _ (w.heap.size + 1) _ rfl rfl (sbox2 _ _ _ _)) rfl ⟨rfl, bel2 w _ _⟩
theorem rsync16_any (s p : List UInt8) (r f : Int) (o : Bool) (hs : s.length ≤ 1125899906842624) (hp : p.length ≤ 1125899906842624) (w : World) :
    Calls Try.prog 59 #[tpV (s, p, r, f, o)] w fun e w' => e = .returned (.tuple #[tpV (syncT (s, p, r, f, o)).1, .int .i64 (syncT (s, p, r, f, o)).2]) ∧ Below w.heap.size w w' := by
  unfold syncT tpV tpC
  have z1 : s.length + p.length ≤ 9223372036854775807 := by omega
  cases o
  · rw [if_neg (by simp)]
    go_enter Try.func59, Try.ntmps59
    go_wp2_with fail
    exact bodyPost_ret (results_tp2 Try.results59 _ _ (w.heap.size + 1) _ rfl rfl (sbox2 _ _ _ _)) rfl ⟨rfl, bel2 w _ _⟩
  · rw [if_pos rfl]
    go_enter Try.func59, Try.ntmps59
    go_wp2_with fail
    exact bodyPost_ret (results_tp2 Try.results59 _ _ (w.heap.size + 1) _ rfl rfl (sbox2 _ _ _ _)) rfl ⟨rfl, bel2 w _ _⟩
theorem hmx16r : Try.prog.follows .mixedOrders = true := by kernel_rfl
set_option maxHeartbeats 2000000 in
theorem rwrite16_any (s p rec : List UInt8) (r f : Int) (o : Bool) (hg : goodW (s, p, r, f, o)) (hl : rec.length ≤ 9223372036854775807) (w : World) :
    Calls Try.prog 58 #[tpV (s, p, r, f, o), .string ⟨rec.toArray⟩] w fun e w' => e = .returned (.tuple #[tpV (writeT (s, p, r, f, o) rec).1, .int .i64 (writeT (s, p, r, f, o) rec).2]) ∧ Below w.heap.size w w' := by
  have hmx := hmx16r
  obtain ⟨⟨g1, g2⟩, ⟨g3, g4⟩, g5, g6⟩ := hg
  simp only at g1 g2 g3 g4 g5 g6
  have X := (SBox.new w 23 #[.string ⟨s.toArray⟩, .string ⟨p.toArray⟩, .int .i64 r, .int .i64 f, .bool o]).alloc (.cells #[.string ⟨#[]⟩, .string ⟨#[]⟩, .int .i64 0, .int .i64 0, .bool false] 23)
  have R := sbox2 w (.cells #[.string ⟨s.toArray⟩, .string ⟨p.toArray⟩, .int .i64 r, .int .i64 f, .bool o] 23) 23 #[.string ⟨#[]⟩, .string ⟨#[]⟩, .int .i64 0, .int .i64 0, .bool false]
  have B0 := bel2 w (.cells #[.string ⟨s.toArray⟩, .string ⟨p.toArray⟩, .int .i64 r, .int .i64 f, .bool o] 23) (.cells #[.string ⟨#[]⟩, .string ⟨#[]⟩, .int .i64 0, .int .i64 0, .bool false] 23)
  unfold writeT laidT tpV tpC
  simp only
  cases o
  · rw [if_neg (by simp)]
    by_cases h1 : 65535 < rec.length
    · rw [if_pos h1]
      go_enter Try.func58, Try.ntmps58
      go_wp2_with fail
      refine (refText_big rec hl h1 _).mono ?_
      rintro e w1 ⟨rfl, b1⟩
      have X1 := X.below b1
      have R1 := R.below b1
      have B1 := bel_trans B0 b1
      have x0 := X1.cell 0 _ rfl
      have x1 := X1.cell 1 _ rfl
      have x2 := X1.cell 2 _ rfl
      have x3 := X1.cell 3 _ rfl
      have x4 := X1.cell 4 _ rfl
      have fx0 := X1.frozen 0
      have fx1 := X1.frozen 1
      have fx2 := X1.frozen 2
      have fx3 := X1.frozen 3
      have fx4 := X1.frozen 4
      have r0 := R1.cell 0 _ rfl
      have r1 := R1.cell 1 _ rfl
      have r2 := R1.cell 2 _ rfl
      have r3 := R1.cell 3 _ rfl
      have r4 := R1.cell 4 _ rfl
      have fr0 := R1.frozen 0
      have fr1 := R1.frozen 1
      have fr2 := R1.frozen 2
      have fr3 := R1.frozen 3
      have fr4 := R1.frozen 4
      clear X R B0
      go_wp2_with fail
      exact bodyPost_ret (results_tp2 Try.results58 _ _ (w.heap.size + 1) _ rfl rfl (R1.put5 _ _ _ _ _)) rfl ⟨rfl, bel_put5 B1 (by omega) _ _ _ _ _⟩
    · rw [if_neg h1]
      have hll := Lm.lenL_le rec.length
      have T := fun W => refText_ok rec h1 W
      obtain ⟨b, hb⟩ : ∃ b, Lm.lenL rec.length ++ rec = b := ⟨_, rfl⟩
      have hbl : b.length ≤ 65538 := by rw [← hb, List.length_append]; omega
      rw [hb] at T ⊢
      clear hb hll hl
      have z1 : p.length + b.length ≤ 9223372036854775807 := by omega
      by_cases h2 : r < (b.length : Int)
      · rw [if_pos h2]
        go_enter Try.func58, Try.ntmps58
        go_wp2_with fail
        refine (T _).mono ?_
        rintro e w1 ⟨rfl, b1⟩
        have X1 := X.below b1
        have R1 := R.below b1
        have B1 := bel_trans B0 b1
        have x0 := X1.cell 0 _ rfl
        have x1 := X1.cell 1 _ rfl
        have x2 := X1.cell 2 _ rfl
        have x3 := X1.cell 3 _ rfl
        have x4 := X1.cell 4 _ rfl
        have fx0 := X1.frozen 0
        have fx1 := X1.frozen 1
        have fx2 := X1.frozen 2
        have fx3 := X1.frozen 3
        have fx4 := X1.frozen 4
        have r0 := R1.cell 0 _ rfl
        have r1 := R1.cell 1 _ rfl
        have r2 := R1.cell 2 _ rfl
        have r3 := R1.cell 3 _ rfl
        have r4 := R1.cell 4 _ rfl
        have fr0 := R1.frozen 0
        have fr1 := R1.frozen 1
        have fr2 := R1.frozen 2
        have fr3 := R1.frozen 3
        have fr4 := R1.frozen 4
        clear X R B0
        go_wp2_with fail
        exact bodyPost_ret (results_tp2 Try.results58 _ _ (w.heap.size + 1) _ rfl rfl (R1.put5 _ _ _ _ _)) rfl ⟨rfl, bel_put5 B1 (by omega) _ _ _ _ _⟩
      · rw [if_neg h2]
        have z2 : wrap64 (r - (b.length : Int)) = r - (b.length : Int) := by unfold wrap64; omega
        by_cases h3 : 0 ≤ f
        · by_cases h4 : f < (b.length : Int)
          · rw [if_pos ⟨h3, h4⟩]
            obtain ⟨k, hk⟩ : ∃ k : Nat, f = (k : Int) := ⟨f.toNat, by omega⟩
            subst hk
            have k1 : (k : Int).toNat = k := by omega
            have k2 : k ≤ b.length := by omega
            have z3 : wrap64 (r - (k : Int)) = r - (k : Int) := by unfold wrap64; omega
            have z4 : p.length + k ≤ 9223372036854775807 := by omega
            have z5 : p.length + min k b.length ≤ 9223372036854775807 := by omega
            rw [k1]
            go_enter Try.func58, Try.ntmps58
            go_wp2_with fail
            refine (T _).mono ?_
            rintro e w1 ⟨rfl, b1⟩
            have X1 := X.below b1
            have R1 := R.below b1
            have B1 := bel_trans B0 b1
            have x0 := X1.cell 0 _ rfl
            have x1 := X1.cell 1 _ rfl
            have x2 := X1.cell 2 _ rfl
            have x3 := X1.cell 3 _ rfl
            have x4 := X1.cell 4 _ rfl
            have fx0 := X1.frozen 0
            have fx1 := X1.frozen 1
            have fx2 := X1.frozen 2
            have fx3 := X1.frozen 3
            have fx4 := X1.frozen 4
            have r0 := R1.cell 0 _ rfl
            have r1 := R1.cell 1 _ rfl
            have r2 := R1.cell 2 _ rfl
            have r3 := R1.cell 3 _ rfl
            have r4 := R1.cell 4 _ rfl
            have fr0 := R1.frozen 0
            have fr1 := R1.frozen 1
            have fr2 := R1.frozen 2
            have fr3 := R1.frozen 3
            have fr4 := R1.frozen 4
            clear X R B0
            go_wp2_with fail
            go_still_tail 6, hmx
            clear x0 fx0 x1 fx1 x2 fx2 x3 fx3 x4 fx4 r0 fr0 r1 fr1 r2 fr2 r3 fr3 r4 fr4
            have X2 := X1.drew
            have R2 := R1.drew
            have B2 := B1.drew
            change wpList _ _ _ _ _ (World.drew w1)
            generalize World.drew w1 = wd at X2 R2 B2 ⊢
            clear X1 R1 B1 b1
            have x0 := X2.cell 0 _ rfl
            have x1 := X2.cell 1 _ rfl
            have x2 := X2.cell 2 _ rfl
            have x3 := X2.cell 3 _ rfl
            have x4 := X2.cell 4 _ rfl
            have fx0 := X2.frozen 0
            have fx1 := X2.frozen 1
            have fx2 := X2.frozen 2
            have fx3 := X2.frozen 3
            have fx4 := X2.frozen 4
            have r0 := R2.cell 0 _ rfl
            have r1 := R2.cell 1 _ rfl
            have r2 := R2.cell 2 _ rfl
            have r3 := R2.cell 3 _ rfl
            have r4 := R2.cell 4 _ rfl
            have fr0 := R2.frozen 0
            have fr1 := R2.frozen 1
            have fr2 := R2.frozen 2
            have fr3 := R2.frozen 3
            have fr4 := R2.frozen 4
            go_wp2_with fail
            exact bodyPost_ret (results_tp2 Try.results58 _ _ (w.heap.size + 1) _ rfl rfl (((((R2.other w.heap.size 1 _ (by omega)).other w.heap.size 2 _ (by omega)).other w.heap.size 3 _ (by omega)).other w.heap.size 4 _ (by omega)).put5 _ _ _ _ _)) rfl ⟨rfl, bel_put5 ((((B2.setCell (p := ⟨w.heap.size, 1, none⟩) (Nat.le_refl _) _).setCell (p := ⟨w.heap.size, 2, none⟩) (Nat.le_refl _) _).setCell (p := ⟨w.heap.size, 3, none⟩) (Nat.le_refl _) _).setCell (p := ⟨w.heap.size, 4, none⟩) (Nat.le_refl _) _) (by omega) _ _ _ _ _⟩
          · rw [if_neg (fun h => h4 h.2), if_pos h3]
            have z3 : wrap64 (f - (b.length : Int)) = f - (b.length : Int) := by unfold wrap64; omega
            go_enter Try.func58, Try.ntmps58
            go_wp2_with fail
            refine (T _).mono ?_
            rintro e w1 ⟨rfl, b1⟩
            have X1 := X.below b1
            have R1 := R.below b1
            have B1 := bel_trans B0 b1
            have x0 := X1.cell 0 _ rfl
            have x1 := X1.cell 1 _ rfl
            have x2 := X1.cell 2 _ rfl
            have x3 := X1.cell 3 _ rfl
            have x4 := X1.cell 4 _ rfl
            have fx0 := X1.frozen 0
            have fx1 := X1.frozen 1
            have fx2 := X1.frozen 2
            have fx3 := X1.frozen 3
            have fx4 := X1.frozen 4
            have r0 := R1.cell 0 _ rfl
            have r1 := R1.cell 1 _ rfl
            have r2 := R1.cell 2 _ rfl
            have r3 := R1.cell 3 _ rfl
            have r4 := R1.cell 4 _ rfl
            have fr0 := R1.frozen 0
            have fr1 := R1.frozen 1
            have fr2 := R1.frozen 2
            have fr3 := R1.frozen 3
            have fr4 := R1.frozen 4
            clear X R B0
            go_wp2_with fail
            exact bodyPost_ret (results_tp2 Try.results58 _ _ (w.heap.size + 1) _ rfl rfl ((((R1.other w.heap.size 1 _ (by omega)).other w.heap.size 2 _ (by omega)).other w.heap.size 3 _ (by omega)).put5 _ _ _ _ _)) rfl ⟨rfl, bel_put5 (((B1.setCell (p := ⟨w.heap.size, 1, none⟩) (Nat.le_refl _) _).setCell (p := ⟨w.heap.size, 2, none⟩) (Nat.le_refl _) _).setCell (p := ⟨w.heap.size, 3, none⟩) (Nat.le_refl _) _) (by omega) _ _ _ _ _⟩
        · rw [if_neg (fun h => h3 h.1), if_neg h3]
          go_enter Try.func58, Try.ntmps58
          go_wp2_with fail
          refine (T _).mono ?_
          rintro e w1 ⟨rfl, b1⟩
          have X1 := X.below b1
          have R1 := R.below b1
          have B1 := bel_trans B0 b1
          have x0 := X1.cell 0 _ rfl
          have x1 := X1.cell 1 _ rfl
          have x2 := X1.cell 2 _ rfl
          have x3 := X1.cell 3 _ rfl
          have x4 := X1.cell 4 _ rfl
          have fx0 := X1.frozen 0
          have fx1 := X1.frozen 1
          have fx2 := X1.frozen 2
          have fx3 := X1.frozen 3
          have fx4 := X1.frozen 4
          have r0 := R1.cell 0 _ rfl
          have r1 := R1.cell 1 _ rfl
          have r2 := R1.cell 2 _ rfl
          have r3 := R1.cell 3 _ rfl
          have r4 := R1.cell 4 _ rfl
          have fr0 := R1.frozen 0
          have fr1 := R1.frozen 1
          have fr2 := R1.frozen 2
          have fr3 := R1.frozen 3
          have fr4 := R1.frozen 4
          clear X R B0
          go_wp2_with fail
          exact bodyPost_ret (results_tp2 Try.results58 _ _ (w.heap.size + 1) _ rfl rfl (((R1.other w.heap.size 1 _ (by omega)).other w.heap.size 2 _ (by omega)).put5 _ _ _ _ _)) rfl ⟨rfl, bel_put5 ((B1.setCell (p := ⟨w.heap.size, 1, none⟩) (Nat.le_refl _) _).setCell (p := ⟨w.heap.size, 2, none⟩) (Nat.le_refl _) _) (by omega) _ _ _ _ _⟩
  · rw [if_pos rfl]
    go_enter Try.func58, Try.ntmps58
    go_wp2_with fail
    exact bodyPost_ret (results_tp2 Try.results58 _ _ (w.heap.size + 1) _ rfl rfl (sbox2 _ _ _ _)) rfl ⟨rfl, bel2 w _ _⟩
end Go.Proofs.Ytngllioidfffdaa
namespace Go.Proofs.Ytngllioidfffdaa
set_option maxRecDepth 100000
open Go.RowKit
set_option linter.unusedVariables false
attribute [local go_sem] ba_size ba_extract take_drop_end
set_option maxHeartbeats 2000000 in
theorem rscan16_any (s : List UInt8) (hs : s.length ≤ 8796093021952) (w : World) :
    Calls Try.prog 62 #[.string ⟨s.toArray⟩] w fun e w' => ScanRes w s e w' := by
  have hfew := Lm.recs_few s
  obtain ⟨i0, hi, hz0, hz1, hz2⟩ := info_parts str_info
  unfold ScanRes
  go_enter Try.func62, Try.ntmps62
  go_wp2_with fail
  go_loopw [4, 5] (fun r i wr => ∃ a x, i = .int .i64 (((Lm.body a).length : Nat) : Int) ∧ Lm.At16 s a x ∧ Below w.heap.size w wr ∧ wr.ownsRow w.heap.size 9 1 r a.length (strV a)) (fun _ i _ => s.length - (intOf i).toNat)
  case atStart => exact ⟨[], s, rfl, Lm.at_start s, Below.refl _ _, World.ownsRow_nil _ _ _ _⟩
  case round =>
    obtain ⟨a, x, rfl, hA, hbw, hrow⟩ := hrel
    have hl := Lm.at_len hA
    obtain ⟨c, hc⟩ : ∃ c, (Lm.body a).length = c := ⟨_, rfl⟩
    have hx : x = s.drop c := by rw [← hA.1, ← hc, List.drop_left]
    subst hx
    have C := fun W => refTakeText_any (s.drop c) 65535 W (by omega)
    rw [hc] at hl ⊢
    have c1 : c ≤ s.length := by omega
    have c2 : (c : Int) ≤ (s.length : Int) := by omega
    by_cases ht : (Lm.takeTextL (s.drop c) 65535).2.2 = 0
    · obtain ⟨n1, n2, n3, n4⟩ := Lm.at_next hA ht
      obtain ⟨⟨t, x', e⟩, hy⟩ : ∃ y, Lm.takeTextL (s.drop c) 65535 = y := ⟨_, rfl⟩
      rw [hy] at n1 n2 n3 ht C
      simp only at n1 n2 n3 ht C
      subst ht
      have hb1 := Lm.body_one a t
      obtain ⟨N, hN⟩ : ∃ N : Nat, (Lm.body a).length + (Lm.lenL t.length ++ t).length = N := ⟨_, rfl⟩
      rw [hN] at n3 hb1
      have z1 : wrap64 ((s.length : Int) - (x'.length : Int)) = (N : Int) := by rw [n3]; unfold wrap64; omega
      have HN : Hid ((Lm.body (a ++ [t])).length = N) := hb1
      have hNc : c < N ∧ c < s.length ∧ N ≤ s.length := by
        have e2 := (Lm.at_len n1).2.1
        have e3 := (Lm.at_len n1).1
        have := Lm.lenL_pos t.length
        simp only [List.length_drop] at n2
        rw [List.length_append] at hN
        omega
      have HM : Hid (c < N ∧ c < s.length ∧ N ≤ s.length) := hNc
      have HA : Hid (Lm.At16 s (a ++ [t]) x') := n1
      have HV : Hid (strV (a ++ [t]) = strV a ++ [.string ⟨t.toArray⟩] ∧ (a ++ [t]).length = a.length + 1) := ⟨strV_snoc a t, by simp⟩
      have hal : a.length + 1 ≤ s.length := by omega
      clear hy n1 n2 n3 n4 hN hb1 hA hNc
      clear hl
      go_wp2_with fail
      refine (C _).mono ?_
      rintro e w1 ⟨rfl, b1⟩
      have B1 := bel_trans hbw b1
      have hrow1 := owns_below hrow b1
      go_wp2_with (at_builtin; refine wpList_append_own _ rfl _ _ 26 rfl w.heap.size 9 i0 (.string ByteArray.empty) 1 16 Try.underlying26 hi hz0 hz1 hz2 rfl (by decide) _ _ _ rfl (hrow1.alloc _) ⟨w1.heap.size, 0, none⟩ 1 1 [.string ⟨t.toArray⟩] rfl rfl ?d1 ?d2 ?d3 ?d4 ?d5 ?_)
      case d1 =>
        intro j u hj
        match j, hj with
        | 0, hj => simp at hj; subst hj; simp [Addr.add]
      case d2 => intro u hu; simp at hu; subst hu; rfl
      case d3 => unfold maxLen; omega
      case d4 => omega
      case d5 => have := B1.size; simp; omega
      intro v' w2 hown2 hgrow2 _
      have B2 : Below w.heap.size w w2 := (B1.alloc B1.size _).grown hgrow2 (by have := B1.size; simp; omega) (fun j hj => (hrow1.lt j hj).1)
      go_wp2_with fail
      go_roundw
      case rel => exact ⟨a ++ [t], x', by rw [HN.out, z1], HA.out, B2, by rw [HV.out.1, HV.out.2]; exact hown2⟩
      case measure => have := HM.out; simp [intOf, z1]; omega
    · have hE := Lm.at_end hA ht
      obtain ⟨⟨t, x', e⟩, hy⟩ : ∃ y, Lm.takeTextL (s.drop c) 65535 = y := ⟨_, rfl⟩
      rw [hy] at ht C
      simp only at ht C
      have hb : ((e : Int) != 0) = true := by simp; omega
      have HE : Hid (Lm.recsL s = a) := hE
      have HC : Hid ((Lm.body a).length = c) := hc
      clear hy hA hE hl ht hc
      go_wp2_with fail
      refine (C _).mono ?_
      rintro e w1 ⟨rfl, b1⟩
      go_wp2_with fail
      go_ret2
      rw [HE.out, HC.out]
      exact ⟨_, rfl, bel_trans hbw b1, owns_below hrow b1⟩
end Go.Proofs.Ytngllioidfffdaa
namespace Go.Proofs.Ytngllioidfffdaa
set_option maxRecDepth 100000
open Go.RowKit
set_option linter.unusedVariables false
attribute [local go_sem] ba_size ba_append ba_extract
theorem rread16_any (s p : List UInt8) (r f : Int) (o : Bool) (hs : s.length + p.length ≤ 8796093021952) (w : World) :
    Calls Try.prog 48 #[tpV (s, p, r, f, o)] w fun e w' => ReadRes w (Lm.recsL (s ++ p)) e w' := by
  have C := fun W => rscan16_any (s ++ p) (by simp; omega) W
  unfold tpV tpC
  go_enter Try.func48, Try.ntmps48
  go_wp2_with fail
  refine (C _).mono ?_
  rintro e w1 ⟨v, rfl, b1, hr⟩
  go_wp2_with fail
  go_ret
  exact ⟨v, rfl, bel_trans (bel1 w _) b1, owns_low hr (by simp)⟩
set_option maxHeartbeats 4000000 in
theorem rcrash16_any (s p : List UInt8) (r f : Int) (o : Bool) (n : Int) (hs : s.length + p.length ≤ 8796093021952) (w : World) :
    Calls Try.prog 37 #[tpV (s, p, r, f, o), .int .i64 n] w fun e w' => e = .returned (tpV (crashT (s, p, r, f, o) n)) ∧ Below w.heap.size w w' := by
  have hmx := hmx16
  have X := (SBox.new w 23 #[.string ⟨s.toArray⟩, .string ⟨p.toArray⟩, .int .i64 r, .int .i64 f, .bool o]).alloc (.cells #[.string ⟨#[]⟩, .string ⟨#[]⟩, .int .i64 0, .int .i64 0, .bool false] 23)
  have R := sbox2 w (.cells #[.string ⟨s.toArray⟩, .string ⟨p.toArray⟩, .int .i64 r, .int .i64 f, .bool o] 23) 23 #[.string ⟨#[]⟩, .string ⟨#[]⟩, .int .i64 0, .int .i64 0, .bool false]
  have B0 := bel2 w (.cells #[.string ⟨s.toArray⟩, .string ⟨p.toArray⟩, .int .i64 r, .int .i64 f, .bool o] 23) (.cells #[.string ⟨#[]⟩, .string ⟨#[]⟩, .int .i64 0, .int .i64 0, .bool false] 23)
  obtain ⟨k, hk⟩ : ∃ k, min n.toNat p.length = k := ⟨_, rfl⟩
  have hkp : p.take n.toNat = p.take k := by rw [← hk, List.take_eq_take_iff]; simp
  have hkl : k ≤ p.length := by omega
  have C := fun W => rscan16_any (s ++ p.take k) (by simp; omega) W
  have hm := Lm.recs_many (s ++ p.take k)
  unfold crashT keptT tpV tpC
  simp only
  rw [hkp]
  clear hkp
  obtain ⟨S, hS⟩ : ∃ S, s ++ p.take k = S := ⟨_, rfl⟩
  have hSl : S.length ≤ s.length + p.length := by rw [← hS]; simp; omega
  obtain ⟨m, hmm⟩ : ∃ m, (Lm.body (Lm.recsL S)).length = m := ⟨_, rfl⟩
  rw [hS] at C hm ⊢
  unfold ScanRes at C
  rw [hmm] at C hm ⊢
  obtain ⟨hm1, hm2, hm3⟩ := hm
  rw [← hm2]
  have z1 : wrap64 ((s.length : Int) + (p.length : Int)) = ((s.length + p.length : Nat) : Int) := by unfold wrap64; omega
  have z2 : (m : Int) ≤ (S.length : Int) := by omega
  have z3 : s.length + min k p.length ≤ 9223372036854775807 := by omega
  have z4 : s.length + k ≤ 9223372036854775807 := by omega
  have z5 : min k p.length = k := by omega
  have z6 : s.length + p.length ≤ 9223372036854775807 := by omega
  clear hm2 hmm hm3
  by_cases h1 : (p.length : Int) < n
  · have hk2 : k = p.length := by omega
    have hS2 : s ++ p = S := by rw [← hS, hk2, List.take_length]
    have h2 : (0 : Int) < (p.length : Int) ∨ p = [] := by
      rcases p with _ | ⟨a, b⟩
      · exact .inr rfl
      · left; simp
    rcases h2 with h2 | h2
    · have h3 : p.take p.length = p := List.take_length
      have hml : min m S.length = m := by omega
      go_enter Try.func37, Try.ntmps37
      go_wp2_with fail
      refine (C _).mono ?_
      rintro e w1 ⟨v, rfl, b1, hr⟩
      have X1 := X.below b1
      have R1 := R.below b1
      have B1 := bel_trans B0 b1
      have x0 := X1.cell 0 _ rfl
      have x1 := X1.cell 1 _ rfl
      have x2 := X1.cell 2 _ rfl
      have x3 := X1.cell 3 _ rfl
      have x4 := X1.cell 4 _ rfl
      have fx0 := X1.frozen 0
      have fx1 := X1.frozen 1
      have fx2 := X1.frozen 2
      have fx3 := X1.frozen 3
      have fx4 := X1.frozen 4
      have r0 := R1.cell 0 _ rfl
      have r1 := R1.cell 1 _ rfl
      have r2 := R1.cell 2 _ rfl
      have r3 := R1.cell 3 _ rfl
      have r4 := R1.cell 4 _ rfl
      have fr0 := R1.frozen 0
      have fr1 := R1.frozen 1
      have fr2 := R1.frozen 2
      have fr3 := R1.frozen 3
      have fr4 := R1.frozen 4
      clear X R
      go_wp2_with fail
      go_region
      go_wp2_with fail
      exact bodyPost_ret (results_tp Try.results37 _ _ (w.heap.size + 1) _ rfl rfl (R1.put5 _ _ _ _ _).drew) rfl ⟨by simp, (bel_put5 B1 (by omega) _ _ _ _ _).drew⟩
    · subst h2
      have hS3 : S = s := by rw [← hS2]; simp
      have h3 : (0 : Int) < n := by simpa using h1
      clear hS hS2
      subst hS3
      have hml : min m S.length = m := by omega
      go_enter Try.func37, Try.ntmps37
      go_wp2_with fail
      refine (C _).mono ?_
      rintro e w1 ⟨v, rfl, b1, hr⟩
      have X1 := X.below b1
      have R1 := R.below b1
      have B1 := bel_trans B0 b1
      have x0 := X1.cell 0 _ rfl
      have x1 := X1.cell 1 _ rfl
      have x2 := X1.cell 2 _ rfl
      have x3 := X1.cell 3 _ rfl
      have x4 := X1.cell 4 _ rfl
      have fx0 := X1.frozen 0
      have fx1 := X1.frozen 1
      have fx2 := X1.frozen 2
      have fx3 := X1.frozen 3
      have fx4 := X1.frozen 4
      have r0 := R1.cell 0 _ rfl
      have r1 := R1.cell 1 _ rfl
      have r2 := R1.cell 2 _ rfl
      have r3 := R1.cell 3 _ rfl
      have r4 := R1.cell 4 _ rfl
      have fr0 := R1.frozen 0
      have fr1 := R1.frozen 1
      have fr2 := R1.frozen 2
      have fr3 := R1.frozen 3
      have fr4 := R1.frozen 4
      clear X R
      go_wp2_with fail
      go_region
      go_wp2_with fail
      exact bodyPost_ret (results_tp Try.results37 _ _ (w.heap.size + 1) _ rfl rfl (R1.put5 _ _ _ _ _).drew) rfl ⟨by simp, (bel_put5 B1 (by omega) _ _ _ _ _).drew⟩
  · by_cases h2 : 0 < n
    · obtain ⟨j, rfl⟩ : ∃ j : Nat, n = (j : Int) := ⟨n.toNat, by omega⟩
      obtain rfl : j = k := by omega
      have hml : min m S.length = m := by omega
      go_enter Try.func37, Try.ntmps37
      go_wp2_with fail
      refine (C _).mono ?_
      rintro e w1 ⟨v, rfl, b1, hr⟩
      have X1 := X.below b1
      have R1 := R.below b1
      have B1 := bel_trans B0 b1
      have x0 := X1.cell 0 _ rfl
      have x1 := X1.cell 1 _ rfl
      have x2 := X1.cell 2 _ rfl
      have x3 := X1.cell 3 _ rfl
      have x4 := X1.cell 4 _ rfl
      have fx0 := X1.frozen 0
      have fx1 := X1.frozen 1
      have fx2 := X1.frozen 2
      have fx3 := X1.frozen 3
      have fx4 := X1.frozen 4
      have r0 := R1.cell 0 _ rfl
      have r1 := R1.cell 1 _ rfl
      have r2 := R1.cell 2 _ rfl
      have r3 := R1.cell 3 _ rfl
      have r4 := R1.cell 4 _ rfl
      have fr0 := R1.frozen 0
      have fr1 := R1.frozen 1
      have fr2 := R1.frozen 2
      have fr3 := R1.frozen 3
      have fr4 := R1.frozen 4
      clear X R
      go_wp2_with fail
      go_region
      go_wp2_with fail
      exact bodyPost_ret (results_tp Try.results37 _ _ (w.heap.size + 1) _ rfl rfl (R1.put5 _ _ _ _ _).drew) rfl ⟨by simp, (bel_put5 B1 (by omega) _ _ _ _ _).drew⟩
    · have hk2 : k = 0 := by omega
      have hS3 : S = s := by rw [← hS, hk2]; simp
      clear hS
      subst hS3
      clear hk2 hk z3 z4 z5 hkl
      have hml : min m S.length = m := by omega
      go_enter Try.func37, Try.ntmps37
      go_wp2_with fail
      refine (C _).mono ?_
      rintro e w1 ⟨v, rfl, b1, hr⟩
      have X1 := X.below b1
      have R1 := R.below b1
      have B1 := bel_trans B0 b1
      have x0 := X1.cell 0 _ rfl
      have x1 := X1.cell 1 _ rfl
      have x2 := X1.cell 2 _ rfl
      have x3 := X1.cell 3 _ rfl
      have x4 := X1.cell 4 _ rfl
      have fx0 := X1.frozen 0
      have fx1 := X1.frozen 1
      have fx2 := X1.frozen 2
      have fx3 := X1.frozen 3
      have fx4 := X1.frozen 4
      have r0 := R1.cell 0 _ rfl
      have r1 := R1.cell 1 _ rfl
      have r2 := R1.cell 2 _ rfl
      have r3 := R1.cell 3 _ rfl
      have r4 := R1.cell 4 _ rfl
      have fr0 := R1.frozen 0
      have fr1 := R1.frozen 1
      have fr2 := R1.frozen 2
      have fr3 := R1.frozen 3
      have fr4 := R1.frozen 4
      clear X R
      go_wp2_with fail
      go_region
      go_wp2_with fail
      exact bodyPost_ret (results_tp Try.results37 _ _ (w.heap.size + 1) _ rfl rfl (R1.put5 _ _ _ _ _).drew) rfl ⟨by simp, (bel_put5 B1 (by omega) _ _ _ _ _).drew⟩
end Go.Proofs.Ytngllioidfffdaa
namespace Go.Proofs.Ytngllioidfffdaa
set_option maxRecDepth 100000
open Go.RowKit
set_option linter.unusedVariables false
section
variable {s p s' p' : List UInt8} {r f r' f' : Int} {o o' : Bool}
theorem rn16 (n : Int) {e : Int} (h : newT n = ((s', p', r', f', o'), e)) (w : World) :
    Calls Try.prog 39 #[.int .i64 n] w fun x w' => x = .returned (.tuple #[tA s' p' r' f' o', .int .i64 e]) ∧ Below w.heap.size w w' := by
  have := rnew16_any n w; rw [h] at this; exact this
theorem rw16 {rec : List UInt8} {e : Int} (hg : goodT (s, p, r, f, o)) (hl : rec.length ≤ 9223372036854775807) (h : writeT (s, p, r, f, o) rec = ((s', p', r', f', o'), e)) (w : World) :
    Calls Try.prog 58 #[tA s p r f o, .string ⟨rec.toArray⟩] w fun x w' => x = .returned (.tuple #[tA s' p' r' f' o', .int .i64 e]) ∧ Below w.heap.size w w' := by
  have := rwrite16_any s p rec r f o hg.w hl w; rw [h] at this; exact this
theorem rs16 {e : Int} (hg : goodT (s, p, r, f, o)) (h : syncT (s, p, r, f, o) = ((s', p', r', f', o'), e)) (w : World) :
    Calls Try.prog 59 #[tA s p r f o] w fun x w' => x = .returned (.tuple #[tA s' p' r' f' o', .int .i64 e]) ∧ Below w.heap.size w w' := by
  have := rsync16_any s p r f o hg.w.2.2.1 hg.w.2.2.2 w; rw [h] at this; exact this
theorem ra16 {n : Int} (h : armT (s, p, r, f, o) n = (s', p', r', f', o')) (w : World) :
    Calls Try.prog 41 #[tA s p r f o, .int .i64 n] w fun x w' => x = .returned (tA s' p' r' f' o') ∧ Below w.heap.size w w' := by
  have := rarm16_any s p r f o n w; rw [h] at this; exact this
theorem rc16 {n : Int} (hg : goodT (s, p, r, f, o)) (h : crashT (s, p, r, f, o) n = (s', p', r', f', o')) (w : World) :
    Calls Try.prog 37 #[tA s p r f o, .int .i64 n] w fun x w' => x = .returned (tA s' p' r' f' o') ∧ Below w.heap.size w w' := by
  have := rcrash16_any s p r f o n (by have := hg.2.2.1; have := hg.2.2.2; simp only at *; omega) w; rw [h] at this; exact this
theorem rr16 (L : List (List UInt8)) (hg : goodT (s, p, r, f, o)) (h : readT (s, p, r, f, o) = L) (w : World) :
    Calls Try.prog 48 #[tA s p r f o] w fun x w' => RdRes w L x w' := by
  have := rread16_any s p r f o (by have := hg.2.2.1; have := hg.2.2.2; simp only at *; omega) w; rw [← h]; exact this
theorem rsc16 (hs : s.length ≤ 8796093021952) (w : World) :
    Calls Try.prog 62 #[.string ⟨s.toArray⟩] w fun x w' => ScRes w (Lm.recsL s) (Lm.body (Lm.recsL s)).length x w' := rscan16_any s hs w
end
end Go.Proofs.Ytngllioidfffdaa
