/-
  What pass.Issue and pass.Take answer.
-/
import Derived.Test.YtjhklkckiogobaaDoorZP5Small
import Derived.Test.YtjhklkckiogobaaDoorZRet4
import Derived.Test.YtjhklkckiogobaaDoorGJ
namespace Go.Proofs.YtjhklkckiogobaaDoor
set_option maxRecDepth 100000
open Go.RowKit
set_option linter.unusedVariables false
attribute [local go_sem] ba_size ba_append
set_option maxHeartbeats 1000000 in
theorem issue5_any (k t : List UInt8) (u : Nat) (hu : u < 18446744073709551616) (w : World) (hG : G w) :
    Calls Tryd.prog 11 #[.string ⟨k.toArray⟩, .string ⟨t.toArray⟩, .int .u64 (u : Int)] w fun e w' => e = .returned (.tuple #[.string ⟨(issueL keyL k t u).1.toArray⟩, .int .i64 ((issueL keyL k t u).2 : Int)]) ∧ Below w.heap.size w w' := by
  have hg3 := hG.size
  have M := mayBe_any t w
  by_cases ht : mayT t
  · rw [decide_eq_true ht] at M
    have S := fun w1 => saying_any t (by have := ht.2; omega) u hu w1
    have z := saidL_len t u
    have K := fun w1 h => sealOf_any k (saidL t u) (by have := ht.2; omega) w1 (hG.below h hg3)
    by_cases hk : mayK k
    · have HE : Hid (issueL keyL k t u = (saidL t u ++ keyL k (4 :: saidL t u), 0)) := by
        show _ = _
        unfold issueL sealL
        rw [if_pos ⟨hk, ht⟩]
      have hK : keyP k (4 :: saidL t u) = (keyL k (4 :: saidL t u), 0) := by unfold keyP; rw [if_pos hk]
      rw [hK] at K
      have l32 := keyL_32 k (4 :: saidL t u)
      have ht2 := ht.2
      obtain ⟨q, hq⟩ : ∃ q, keyL k (4 :: saidL t u) = q := ⟨_, rfl⟩
      rw [hq] at K HE l32
      clear hq hK
      obtain ⟨x, hx⟩ : ∃ x, saidL t u = x := ⟨_, rfl⟩
      rw [hx] at S K HE z
      clear hx
      rw [HE.out]
      have k3 : x.length + q.length ≤ 9223372036854775807 := by omega
      clear hk ht z l32
      go_enter Tryd.func11, Tryd.ntmps11
      go_wp2_with fail
      refine M.mono ?_
      rintro e w1 ⟨rfl, hb1⟩
      go_wp2_with fail
      refine (S w1).mono ?_
      rintro e w2 ⟨rfl, hb2⟩
      have B2 := bel_trans hb1 hb2
      go_wp2_with fail
      refine (K w2 B2).mono ?_
      rintro e w3 ⟨rfl, hb3⟩
      go_wp2_with fail
      go_ret2
      exact ⟨rfl, bel_trans B2 hb3⟩
    · have hI : issueL keyL k t u = ([], 1) := by unfold issueL; rw [if_neg (fun h => hk h.1)]
      have hK : keyP k (4 :: saidL t u) = ([], 1) := by unfold keyP; rw [if_neg hk]
      rw [hK] at K
      rw [hI]
      obtain ⟨x, hx⟩ : ∃ x, saidL t u = x := ⟨_, rfl⟩
      rw [hx] at S K
      clear hx z hI hK hk ht
      go_enter Tryd.func11, Tryd.ntmps11
      go_wp2_with fail
      refine M.mono ?_
      rintro e w1 ⟨rfl, hb1⟩
      go_wp2_with fail
      refine (S w1).mono ?_
      rintro e w2 ⟨rfl, hb2⟩
      have B2 := bel_trans hb1 hb2
      go_wp2_with fail
      refine (K w2 B2).mono ?_
      rintro e w3 ⟨rfl, hb3⟩
      go_wp2_with fail
      go_ret2
      exact ⟨rfl, bel_trans B2 hb3⟩
  · rw [decide_eq_false ht] at M
    have hI : issueL keyL k t u = ([], 1) := by unfold issueL; rw [if_neg (fun h => ht h.2)]
    rw [hI]
    clear hI ht
    go_enter Tryd.func11, Tryd.ntmps11
    go_wp2_with fail
    refine M.mono ?_
    rintro e w1 ⟨rfl, hb1⟩
    go_wp2_with fail
    go_ret2
    exact ⟨rfl, hb1⟩
set_option maxHeartbeats 2000000 in
theorem take5_any (s : List UInt8) (hs : s.length ≤ 9223372036854775807) (w : World) :
    Calls Tryd.prog 13 #[.string ⟨s.toArray⟩] w fun e w' => e = .returned (takeV (takeR s)) ∧ Below w.heap.size w w' := by
  have A := takeText_any s 16 w hs
  have b1 := takeTextL_bd s 16
  have B := fun w1 => takeNum_any (Lm.takeTextL s 16).2.1 w1 (by omega)
  have M := fun w1 => mayBe_any (Lm.takeTextL s 16).1 w1
  have b2 := takeNumL_bd (Lm.takeTextL s 16).2.1
  have r1 := takeR_bad1 s
  have r2 := takeR_bad2 s
  have r3 := takeR_good s
  have b3 := takeText_16 s
  obtain ⟨R, hR⟩ : ∃ R, takeR s = R := ⟨_, rfl⟩
  rw [hR] at r1 r2 r3 ⊢
  clear hR
  obtain ⟨t, hx⟩ : ∃ t, (Lm.takeTextL s 16).1 = t := ⟨_, rfl⟩
  obtain ⟨a, ha⟩ : ∃ t, (Lm.takeTextL s 16).2.1 = t := ⟨_, rfl⟩
  obtain ⟨e, he⟩ : ∃ t, (Lm.takeTextL s 16).2.2 = t := ⟨_, rfl⟩
  rw [hx, ha, he] at A
  rw [ha] at B b2
  rw [hx] at M
  rw [he, hx] at r1 b3
  rw [ha] at r2
  rw [he, hx, ha] at r3
  rw [hx, ha] at b1
  clear hx ha he
  obtain ⟨u, hu⟩ : ∃ t, (Lm.takeNumL a).1 = t := ⟨_, rfl⟩
  obtain ⟨v, hv⟩ : ∃ t, (Lm.takeNumL a).2.1 = t := ⟨_, rfl⟩
  obtain ⟨f, hf⟩ : ∃ t, (Lm.takeNumL a).2.2 = t := ⟨_, rfl⟩
  rw [hu, hv, hf] at B r3
  rw [hu, hv] at b2
  rw [hf, hv] at r2
  clear hu hv hf
  by_cases h1 : e = 0
  · have j1 : ((e : Int) == 0) = true := by rw [h1]; rfl
    have j1' : ((e : Int) != 0) = false := by rw [h1]; rfl
    have hl := b3 h1
    by_cases h2 : 1 ≤ t.length
    · rw [decide_eq_true (show mayT t from ⟨h2, hl⟩)] at M
      by_cases h3 : f = 0
      · have j3 : ((f : Int) != 0) = false := by rw [h3]; rfl
        by_cases h4 : v.length = 32
        · have j4 : ((v.length : Int) != 32) = false := by rw [h4]; rfl
          obtain rfl := r3 h1 h2 h3 h4
          subst h1 h3
          clear r1 r2 r3 b1 b2 b3 hl h2
          unfold takeV
          go_enter Tryd.func13, Tryd.ntmps13
          go_wp2_with fail
          refine A.mono ?_
          rintro e w1 ⟨rfl, hb1⟩
          go_wp2_with fail
          refine (B w1).mono ?_
          rintro e w2 ⟨rfl, hb2⟩
          have B2 := bel_trans hb1 hb2
          go_wp2_with fail
          refine (M w2).mono ?_
          rintro e w3 ⟨rfl, hb3⟩
          go_wp2_with fail
          (try simp only [Exit.inBlock, Exit.then])
          refine bodyPost_ret (results_four rfl _ _ _) rfl ?_
          exact ⟨rfl, bel_trans B2 hb3⟩
        · have j4 : ((v.length : Int) != 32) = true := by simp; omega
          obtain rfl := r2 (Or.inr h4)
          subst h1 h3
          clear r1 r2 r3 b1 b2 b3 hl h2
          unfold takeV
          go_enter Tryd.func13, Tryd.ntmps13
          go_wp2_with fail
          refine A.mono ?_
          rintro e w1 ⟨rfl, hb1⟩
          go_wp2_with fail
          refine (B w1).mono ?_
          rintro e w2 ⟨rfl, hb2⟩
          have B2 := bel_trans hb1 hb2
          go_wp2_with fail
          refine (M w2).mono ?_
          rintro e w3 ⟨rfl, hb3⟩
          go_wp2_with fail
          (try simp only [Exit.inBlock, Exit.then])
          refine bodyPost_ret (results_four rfl _ _ _) rfl ?_
          exact ⟨rfl, bel_trans B2 hb3⟩
      · have j3 : ((f : Int) != 0) = true := by simp; omega
        obtain rfl := r2 (Or.inl h3)
        subst h1
        clear r1 r2 r3 b1 b2 b3 hl h2
        unfold takeV
        go_enter Tryd.func13, Tryd.ntmps13
        go_wp2_with fail
        refine A.mono ?_
        rintro e w1 ⟨rfl, hb1⟩
        go_wp2_with fail
        refine (B w1).mono ?_
        rintro e w2 ⟨rfl, hb2⟩
        have B2 := bel_trans hb1 hb2
        go_wp2_with fail
        refine (M w2).mono ?_
        rintro e w3 ⟨rfl, hb3⟩
        go_wp2_with fail
        (try simp only [Exit.inBlock, Exit.then])
        refine bodyPost_ret (results_four rfl _ _ _) rfl ?_
        exact ⟨rfl, bel_trans B2 hb3⟩
    · rw [decide_eq_false (show ¬ mayT t from fun h => h2 h.1)] at M
      obtain rfl := r1 (Or.inr (by omega))
      subst h1
      clear r1 r2 r3 b1 b2 b3 hl h2
      unfold takeV
      go_enter Tryd.func13, Tryd.ntmps13
      go_wp2_with fail
      refine A.mono ?_
      rintro e w1 ⟨rfl, hb1⟩
      go_wp2_with fail
      refine (B w1).mono ?_
      rintro e w2 ⟨rfl, hb2⟩
      have B2 := bel_trans hb1 hb2
      go_wp2_with fail
      refine (M w2).mono ?_
      rintro e w3 ⟨rfl, hb3⟩
      go_wp2_with fail
      (try simp only [Exit.inBlock, Exit.then])
      refine bodyPost_ret (results_four rfl _ _ _) rfl ?_
      exact ⟨rfl, bel_trans B2 hb3⟩
  · have j1 : ((e : Int) != 0) = true := by simp; omega
    obtain rfl := r1 (Or.inl h1)
    clear r1 r2 r3 b1 b2 b3 M
    unfold takeV
    go_enter Tryd.func13, Tryd.ntmps13
    go_wp2_with fail
    refine A.mono ?_
    rintro e w1 ⟨rfl, hb1⟩
    go_wp2_with fail
    refine (B w1).mono ?_
    rintro e w2 ⟨rfl, hb2⟩
    go_wp2_with fail
    (try simp only [Exit.inBlock, Exit.then])
    refine bodyPost_ret (results_four rfl _ _ _) rfl ?_
    exact ⟨rfl, bel_trans hb1 hb2⟩
end Go.Proofs.YtjhklkckiogobaaDoor
