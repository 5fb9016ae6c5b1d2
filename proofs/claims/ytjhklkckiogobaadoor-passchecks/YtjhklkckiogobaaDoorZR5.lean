/-
  What cartoucheref05's said, Issue, Take and Check answer.
-/
import Derived.Test.YtjhklkckiogobaaDoorZPass2
import Derived.Test.YtjhklkckiogobaaDoorZRet4
import Derived.Test.YtjhklkckiogobaaDoorGK
import Derived.Test.YtjhklkckiogobaaDoorZR5K
namespace Go.Proofs.YtjhklkckiogobaaDoor
set_option maxRecDepth 100000
open Go.RowKit
set_option linter.unusedVariables false
attribute [local go_sem] ba_size ba_append
theorem rsaid_any (t : List UInt8) (h : ¬ 65535 < t.length) (u : Nat) (hu : u < 18446744073709551616) (w : World) :
    Calls Tryd.prog 21 #[.string ⟨t.toArray⟩, .int .u64 (u : Int)] w fun e w' => e = .returned (.string ⟨(saidL t u).toArray⟩) ∧ Below w.heap.size w w' := by
  have T1 := refText_ok t h w
  have T2 := fun w1 => refNum_any u hu w1
  have l1 := Lm.lenL_le t.length
  have l2 := Lm.numL_length u
  have l3 := Lm.cnt_le u
  have HE : Hid (saidL t u = (Lm.lenL t.length ++ t) ++ Lm.numL u) := (rfl : _ = _)
  have k1 : (Lm.lenL t.length ++ t).length ≤ 65538 := by rw [List.length_append]; omega
  obtain ⟨x, hx⟩ : ∃ x, Lm.lenL t.length ++ t = x := ⟨_, rfl⟩
  obtain ⟨y, hy⟩ : ∃ y, Lm.numL u = y := ⟨_, rfl⟩
  rw [hx] at T1 HE k1
  rw [hy] at T2 HE l2
  have k3 : x.length + y.length ≤ 9223372036854775807 := by omega
  clear hx hy l1 l2 l3
  go_enter Tryd.func21, Tryd.ntmps21
  go_wp2_with fail
  refine T1.mono ?_
  rintro e w1 ⟨rfl, hb1⟩
  go_wp2_with fail
  refine (T2 w1).mono ?_
  rintro e w2 ⟨rfl, hb2⟩
  go_wp2_with fail
  go_ret
  exact ⟨by rw [HE.out]; rfl, bel_trans hb1 hb2⟩
set_option maxHeartbeats 1000000 in
theorem rissue_any (k t : List UInt8) (u : Nat) (hu : u < 18446744073709551616) (w : World) :
    Calls Tryd.prog 12 #[.string ⟨k.toArray⟩, .string ⟨t.toArray⟩, .int .u64 (u : Int)] w fun e w' => e = .returned (.tuple #[.string ⟨(issueL keyL k t u).1.toArray⟩, .int .i64 ((issueL keyL k t u).2 : Int)]) ∧ Below w.heap.size w w' := by
  by_cases hm : mayK k ∧ mayT t
  · obtain ⟨hk, ht⟩ := hm
    have S := fun w1 => rsaid_any t (by have := ht.2; omega) u hu w1
    have z := saidL_len t u
    have K := fun w1 => rkeyed_any k (4 :: saidL t u) (by have := ht.2; simp; omega) w1
    have HE : Hid (issueL keyL k t u = (saidL t u ++ keyL k (4 :: saidL t u), 0)) := by
      show _ = _
      unfold issueL sealL
      rw [if_pos ⟨hk, ht⟩]
    have hK : keyP k (4 :: saidL t u) = (keyL k (4 :: saidL t u), 0) := by unfold keyP; rw [if_pos hk]
    rw [hK] at K
    have l32 := keyL_32 k (4 :: saidL t u)
    obtain ⟨k1, k2⟩ := hk
    obtain ⟨t1, t2⟩ := ht
    obtain ⟨q, hq⟩ : ∃ q, keyL k (4 :: saidL t u) = q := ⟨_, rfl⟩
    rw [hq] at K HE l32
    clear hq hK
    obtain ⟨x, hx⟩ : ∃ x, saidL t u = x := ⟨_, rfl⟩
    rw [hx] at S K HE z
    clear hx
    rw [HE.out]
    have k3 : x.length + q.length ≤ 9223372036854775807 := by omega
    have k4 : 1 + x.length ≤ 9223372036854775807 := by omega
    have i1 : ¬ (t.length : Int) < 1 := by omega
    have i2 : ¬ (16 : Int) < (t.length : Int) := by omega
    have i3 : ¬ (k.length : Int) < 1 := by omega
    have i4 : ¬ (32 : Int) < (k.length : Int) := by omega
    clear z l32
    go_enter Tryd.func12, Tryd.ntmps12
    go_wp2_with fail
    refine (S w).mono ?_
    rintro e w2 ⟨rfl, hb2⟩
    go_wp2_with fail
    refine (K w2).mono ?_
    rintro e w3 ⟨rfl, hb3⟩
    go_wp2_with fail
    go_ret2
    exact ⟨rfl, bel_trans hb2 hb3⟩
  · have hI : issueL keyL k t u = ([], 1) := by unfold issueL; rw [if_neg hm]
    rw [hI]
    clear hI
    by_cases h1 : t.length < 1
    · have i1 : (t.length : Int) < 1 := by omega
      go_enter Tryd.func12, Tryd.ntmps12
      go_wp2_with fail
      go_ret2
      exact ⟨rfl, Below.refl _ _⟩
    · have i1 : ¬ (t.length : Int) < 1 := by omega
      by_cases h2 : 16 < t.length
      · have i2 : (16 : Int) < (t.length : Int) := by omega
        go_enter Tryd.func12, Tryd.ntmps12
        go_wp2_with fail
        go_ret2
        exact ⟨rfl, Below.refl _ _⟩
      · have i2 : ¬ (16 : Int) < (t.length : Int) := by omega
        by_cases h3 : k.length < 1
        · have i3 : (k.length : Int) < 1 := by omega
          go_enter Tryd.func12, Tryd.ntmps12
          go_wp2_with fail
          go_ret2
          exact ⟨rfl, Below.refl _ _⟩
        · have i3 : ¬ (k.length : Int) < 1 := by omega
          have i4 : (32 : Int) < (k.length : Int) := by unfold mayK mayT at hm; omega
          go_enter Tryd.func12, Tryd.ntmps12
          go_wp2_with fail
          go_ret2
          exact ⟨rfl, Below.refl _ _⟩
set_option maxHeartbeats 2000000 in
theorem rtake5_any (s : List UInt8) (hs : s.length ≤ 9223372036854775807) (w : World) :
    Calls Tryd.prog 14 #[.string ⟨s.toArray⟩] w fun e w' => e = .returned (takeV (takeR s)) ∧ Below w.heap.size w w' := by
  have A := refTakeText_any s 16 w hs
  have b1 := takeTextL_bd s 16
  have B := fun w1 => refTakeNum_any (Lm.takeTextL s 16).2.1 w1 (by omega)
  have b2 := takeNumL_bd (Lm.takeTextL s 16).2.1
  have r1 := takeR_bad1 s
  have r2 := takeR_bad2 s
  have r3 := takeR_good s
  obtain ⟨R, hR⟩ : ∃ R, takeR s = R := ⟨_, rfl⟩
  rw [hR] at r1 r2 r3 ⊢
  clear hR
  obtain ⟨t, hx⟩ : ∃ t, (Lm.takeTextL s 16).1 = t := ⟨_, rfl⟩
  obtain ⟨a, ha⟩ : ∃ t, (Lm.takeTextL s 16).2.1 = t := ⟨_, rfl⟩
  obtain ⟨e, he⟩ : ∃ t, (Lm.takeTextL s 16).2.2 = t := ⟨_, rfl⟩
  rw [hx, ha, he] at A
  rw [ha] at B b2
  rw [he, hx] at r1
  rw [ha] at r2
  rw [he, hx, ha] at r3
  rw [hx, ha] at b1
  clear hx ha he
  obtain ⟨u, hu⟩ : ∃ t, (Lm.takeNumL a).1 = t := ⟨_, rfl⟩
  obtain ⟨v, hv⟩ : ∃ t, (Lm.takeNumL a).2.1 = t := ⟨_, rfl⟩
  obtain ⟨f, hf⟩ : ∃ t, (Lm.takeNumL a).2.2 = t := ⟨_, rfl⟩
  rw [hu, hv, hf] at B r3
  rw [hu, hv] at b2
  rw [hf, hv] at r2
  clear hu hv hf
  by_cases h1 : e = 0
  · by_cases h2 : 1 ≤ t.length
    · have j2 : ((t.length : Int) == 0) = false := by rw [beq_eq_false_iff_ne]; omega
      by_cases h3 : f = 0
      · have j3 : ((f : Int) != 0) = false := by rw [h3]; rfl
        by_cases h4 : v.length = 32
        · have j4 : ((v.length : Int) != 32) = false := by rw [h4]; rfl
          obtain rfl := r3 h1 h2 h3 h4
          subst h1 h3
          clear r1 r2 r3 b1 b2 h2
          unfold takeV
          go_enter Tryd.func14, Tryd.ntmps14
          go_wp2_with fail
          refine A.mono ?_
          rintro e w1 ⟨rfl, hb1⟩
          go_wp2_with fail
          refine (B w1).mono ?_
          rintro e w2 ⟨rfl, hb2⟩
          go_wp2_with fail
          (try simp only [Exit.inBlock, Exit.then])
          refine bodyPost_ret (results_four rfl _ _ _) rfl ?_
          exact ⟨rfl, bel_trans hb1 hb2⟩
        · have j4 : ((v.length : Int) != 32) = true := by simp; omega
          obtain rfl := r2 (Or.inr h4)
          subst h1 h3
          clear r1 r2 r3 b1 b2 h2
          unfold takeV
          go_enter Tryd.func14, Tryd.ntmps14
          go_wp2_with fail
          refine A.mono ?_
          rintro e w1 ⟨rfl, hb1⟩
          go_wp2_with fail
          refine (B w1).mono ?_
          rintro e w2 ⟨rfl, hb2⟩
          go_wp2_with fail
          (try simp only [Exit.inBlock, Exit.then])
          refine bodyPost_ret (results_four rfl _ _ _) rfl ?_
          exact ⟨rfl, bel_trans hb1 hb2⟩
      · have j3 : ((f : Int) != 0) = true := by simp; omega
        obtain rfl := r2 (Or.inl h3)
        subst h1
        clear r1 r2 r3 b1 b2 h2
        unfold takeV
        go_enter Tryd.func14, Tryd.ntmps14
        go_wp2_with fail
        refine A.mono ?_
        rintro e w1 ⟨rfl, hb1⟩
        go_wp2_with fail
        refine (B w1).mono ?_
        rintro e w2 ⟨rfl, hb2⟩
        go_wp2_with fail
        (try simp only [Exit.inBlock, Exit.then])
        refine bodyPost_ret (results_four rfl _ _ _) rfl ?_
        exact ⟨rfl, bel_trans hb1 hb2⟩
    · have j2 : ((t.length : Int) == 0) = true := by rw [beq_iff_eq]; omega
      obtain rfl := r1 (Or.inr (by omega))
      subst h1
      clear r1 r2 r3 b1 b2 h2
      unfold takeV
      go_enter Tryd.func14, Tryd.ntmps14
      go_wp2_with fail
      refine A.mono ?_
      rintro e w1 ⟨rfl, hb1⟩
      go_wp2_with fail
      (try simp only [Exit.inBlock, Exit.then])
      refine bodyPost_ret (results_four rfl _ _ _) rfl ?_
      exact ⟨rfl, hb1⟩
  · have j1 : ((e : Int) != 0) = true := by simp; omega
    obtain rfl := r1 (Or.inl h1)
    clear r1 r2 r3 b1 b2
    unfold takeV
    go_enter Tryd.func14, Tryd.ntmps14
    go_wp2_with fail
    refine A.mono ?_
    rintro e w1 ⟨rfl, hb1⟩
    go_wp2_with fail
    (try simp only [Exit.inBlock, Exit.then])
    refine bodyPost_ret (results_four rfl _ _ _) rfl ?_
    exact ⟨rfl, hb1⟩
end Go.Proofs.YtjhklkckiogobaaDoor
