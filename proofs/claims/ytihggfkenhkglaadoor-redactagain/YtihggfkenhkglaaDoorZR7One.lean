/-
  What cartoucheref07.One answers.
-/
import Derived.Test.YtihggfkenhkglaaDoorZR7Tag
import Derived.Test.YtihggfkenhkglaaDoorZR6May
import Derived.Test.YtihggfkenhkglaaDoorGH
namespace Go.Proofs.YtihggfkenhkglaaDoor
set_option maxRecDepth 100000
open Go.RowKit
set_option linter.unusedVariables false
attribute [local go_sem] ba_size ba_append
set_option maxHeartbeats 2000000 in
theorem rone_any (s : List UInt8) (k t : Int) (a b : List UInt8) (w : World) :
    Calls Tryd.prog 16 #[.string ⟨s.toArray⟩, evW (k, t, a, b)] w fun e w' => e = .returned (.tuple #[evW (oneP s (k, t, a, b)).1, .int .i64 ((oneP s (k, t, a, b)).2 : Int)]) ∧ Below w.heap.size w w' := by
  have X0 := (SBox.new w 23 #[.int .i64 k, .int .i64 t, .string ⟨a.toArray⟩, .string ⟨b.toArray⟩]).alloc (.cells #[.int .i64 0, .int .i64 0, .string ⟨#[]⟩, .string ⟨#[]⟩] 23)
  have R0 := SBox.new (w.alloc (.cells #[.int .i64 k, .int .i64 t, .string ⟨a.toArray⟩, .string ⟨b.toArray⟩] 23)) 23 #[.int .i64 0, .int .i64 0, .string ⟨#[]⟩, .string ⟨#[]⟩]
  rw [show (w.alloc (.cells #[.int .i64 k, .int .i64 t, .string ⟨a.toArray⟩, .string ⟨b.toArray⟩] 23)).heap.size = w.heap.size + 1 by simp] at R0
  have B00 := (Below.refl w.heap.size w).alloc (Nat.le_refl _) (.cells #[.int .i64 k, .int .i64 t, .string ⟨a.toArray⟩, .string ⟨b.toArray⟩] 23)
  have B0 := B00.alloc B00.size (.cells #[.int .i64 0, .int .i64 0, .string ⟨#[]⟩, .string ⟨#[]⟩] 23)
  have M : Hid (∀ W, Calls Tryd.prog 26 #[.agg #[.int .i64 k, .int .i64 t, .string ⟨a.toArray⟩, .string ⟨b.toArray⟩]] W fun e w' => e = .returned (.bool (decide (mayE (k, t, a, b)))) ∧ Below W.heap.size W w') := fun W => rmay_any k t a b W
  by_cases hm : mayE (k, t, a, b) ∧ mayK s
  · obtain ⟨hm, hs⟩ := hm
    rw [oneP_ok s _ hm hs]
    rw [decide_eq_true hm] at M
    have i3 : ¬ (s.length : Int) < 1 := by have := hs.1; omega
    have i4 : ¬ (32 : Int) < (s.length : Int) := by have := hs.2; omega
    by_cases hk : k = 2 ∨ k = 3
    · have hl := ((mayE_key hk).1 hm).2
      have A1 := fun W => rkeytag_any s a (by omega) W
      have A2 := fun W => rvaltag_any s b (by omega) W
      unfold keyTagP keyP at A1
      unfold valTagP at A2
      rw [if_pos hs] at A1 A2
      have HE : Hid (tagE (keyL s) (k, t, a, b) = (k, t, keyL s (5 :: a), tagV (keyL s) b)) := by
        show _ = _
        unfold tagE tagK
        rw [if_pos (show keyedE k from hk)]
      obtain ⟨p, hp⟩ : ∃ p, keyL s (5 :: a) = p := ⟨_, rfl⟩
      obtain ⟨q, hq⟩ : ∃ q, tagV (keyL s) b = q := ⟨_, rfl⟩
      rw [hp, hq] at HE
      rw [hp] at A1
      rw [hq] at A2
      rw [HE.out]
      have qk : (k == 2) = true ∨ (k == 2) = false ∧ (k == 3) = true := by
        rcases hk with h | h
        · left; rw [h]; rfl
        · right; rw [h]; exact ⟨rfl, rfl⟩
      clear hp hq hl hm hs hk
      rcases qk with k2 | ⟨k2, k3⟩
      all_goals
        go_enter Tryd.func16, Tryd.ntmps16
        go_wp2_with fail
        refine (M.out _).mono ?_
        rintro e w1 ⟨rfl, b1⟩
        have X1 := X0.below b1
        have R1 := R0.below b1
        have x0 := X1.cell 0 _ rfl
        have x2 := X1.cell 2 _ rfl
        go_wp2_with fail
        refine (A1 _).mono ?_
        rintro e w2 ⟨rfl, b2⟩
        have X2 := X1.below b2
        have R2 := R1.below b2
        have y2 := X2.cell 2 _ rfl
        have y3 := X2.cell 3 _ rfl
        have f2 := X2.frozen 2
        have X3 := X2.set 2 (.string ⟨p.toArray⟩)
        have R3 := R2.other w.heap.size 2 (.string ⟨p.toArray⟩) (by omega)
        have B3 := (bel_trans (bel_trans B0 b1) b2).setCell (p := ⟨w.heap.size, 2, none⟩) (Nat.le_refl _) (.string ⟨p.toArray⟩)
        go_wp2_with fail
        refine (A2 _).mono ?_
        rintro e w4 ⟨rfl, b4⟩
        have X4 := X3.below b4
        have R4 := R3.below b4
        have B4 := bel_trans B3 b4
        clear x0 x2 y2 y3 f2
        have z0 := X4.cell 0 _ rfl
        have z1 := X4.cell 1 _ rfl
        have z2 := X4.cell 2 _ rfl
        have z3 := X4.cell 3 _ rfl
        have f3 := X4.frozen 3
        have r0 := R4.cell 0 _ rfl
        have r1 := R4.cell 1 _ rfl
        have r2 := R4.cell 2 _ rfl
        have r3 := R4.cell 3 _ rfl
        have g0 := R4.frozen 0
        have g1 := R4.frozen 1
        have g2 := R4.frozen 2
        have g3 := R4.frozen 3
        have R5 := R4.other w.heap.size 3 (.string ⟨q.toArray⟩) (by omega)
        have B5 := B4.setCell (p := ⟨w.heap.size, 3, none⟩) (Nat.le_refl _) (.string ⟨q.toArray⟩)
        go_wp2_with fail
        generalize hW : World.setCell _ _ _ = W
        have RW : SBox W (w.heap.size + 1) 23 #[.int .i64 k, .int .i64 t, .string ⟨p.toArray⟩, .string ⟨q.toArray⟩] := by rw [← hW]; exact R5.put4 _ _ _ _
        have BZ : Below w.heap.size w W := by rw [← hW]; exact bel_put4 B5 (Nat.le_succ _) _ _ _ _
        exact bodyPost_ret (v := .tuple #[evW (k, t, p, q), .int .i64 0]) (results_row_tmp Tryd.results16 _ _ (w.heap.size + 1) 23 _ (0, 0) _ rfl RW Tryd.underlying23 rfl size_ev7) rfl ⟨rfl, BZ⟩
    · have HE : Hid (tagE (keyL s) (k, t, a, b) = (k, t, a, b)) := by
        show _ = _
        unfold tagE
        rw [if_neg (show ¬ keyedE k from hk)]
      rw [HE.out]
      have k2 : (k == 2) = false := beq_eq_false_iff_ne.2 (fun h => hk (Or.inl h))
      have k3 : (k == 3) = false := beq_eq_false_iff_ne.2 (fun h => hk (Or.inr h))
      clear hk hm hs
      go_enter Tryd.func16, Tryd.ntmps16
      go_wp2_with fail
      refine (M.out _).mono ?_
      rintro e w1 ⟨rfl, b1⟩
      have X1 := X0.below b1
      have R1 := R0.below b1
      have B1 := bel_trans B0 b1
      have z0 := X1.cell 0 _ rfl
      have z1 := X1.cell 1 _ rfl
      have z2 := X1.cell 2 _ rfl
      have z3 := X1.cell 3 _ rfl
      have r0 := R1.cell 0 _ rfl
      have r1 := R1.cell 1 _ rfl
      have r2 := R1.cell 2 _ rfl
      have r3 := R1.cell 3 _ rfl
      have g0 := R1.frozen 0
      have g1 := R1.frozen 1
      have g2 := R1.frozen 2
      have g3 := R1.frozen 3
      go_wp2_with fail
      generalize hW : World.setCell _ _ _ = W
      have RW : SBox W (w.heap.size + 1) 23 #[.int .i64 k, .int .i64 t, .string ⟨a.toArray⟩, .string ⟨b.toArray⟩] := by rw [← hW]; exact R1.put4 _ _ _ _
      have BZ : Below w.heap.size w W := by rw [← hW]; exact bel_put4 B1 (Nat.le_succ _) _ _ _ _
      exact bodyPost_ret (v := .tuple #[evW (k, t, a, b), .int .i64 0]) (results_row_tmp Tryd.results16 _ _ (w.heap.size + 1) 23 _ (0, 0) _ rfl RW Tryd.underlying23 rfl size_ev7) rfl ⟨rfl, BZ⟩
  · rw [oneP_no s _ hm]
    have hc : decide (mayE (k, t, a, b)) = false ∨ decide (mayE (k, t, a, b)) = true ∧ ((s.length : Int) < 1 ∨ ¬ (s.length : Int) < 1 ∧ (32 : Int) < (s.length : Int)) := by
      by_cases h1 : mayE (k, t, a, b)
      · right
        refine ⟨decide_eq_true h1, ?_⟩
        have h2 : ¬ mayK s := fun h => hm ⟨h1, h⟩
        unfold mayK at h2
        omega
      · left; exact decide_eq_false h1
    obtain ⟨m, hmm⟩ : ∃ m, decide (mayE (k, t, a, b)) = m := ⟨_, rfl⟩
    rw [hmm] at M hc
    clear hm hmm
    rcases hc with rfl | ⟨rfl, hc | ⟨hc, hd⟩⟩
    all_goals
      go_enter Tryd.func16, Tryd.ntmps16
      go_wp2_with fail
      refine (M.out _).mono ?_
      rintro e w1 ⟨rfl, b1⟩
      have R1 := R0.below b1
      have B1 := bel_trans B0 b1
      have r0 := R1.cell 0 _ rfl
      have r1 := R1.cell 1 _ rfl
      have r2 := R1.cell 2 _ rfl
      have r3 := R1.cell 3 _ rfl
      have g0 := R1.frozen 0
      have g1 := R1.frozen 1
      have g2 := R1.frozen 2
      have g3 := R1.frozen 3
      go_wp2_with fail
      generalize hW : World.setCell _ _ _ = W
      have RW : SBox W (w.heap.size + 1) 23 #[.int .i64 0, .int .i64 0, .string ⟨#[]⟩, .string ⟨#[]⟩] := by rw [← hW]; exact R1.put4 _ _ _ _
      have BZ : Below w.heap.size w W := by rw [← hW]; exact bel_put4 B1 (Nat.le_succ _) _ _ _ _
      exact bodyPost_ret (v := .tuple #[evW (0, 0, [], []), .int .i64 1]) (results_row_tmp Tryd.results16 _ _ (w.heap.size + 1) 23 _ (0, 0) _ rfl RW Tryd.underlying23 rfl size_ev7) rfl ⟨rfl, BZ⟩
end Go.Proofs.YtihggfkenhkglaaDoor
