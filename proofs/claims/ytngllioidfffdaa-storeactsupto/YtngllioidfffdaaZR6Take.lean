/-
  What cartoucheref06.Take answers.
-/
import Derived.Test.YtngllioidfffdaaZR6Bytes
import Derived.Test.YtngllioidfffdaaGK
import Derived.Test.YtngllioidfffdaaGC
namespace Go.Proofs.Ytngllioidfffdaa
set_option maxRecDepth 100000
open Go.RowKit
set_option linter.unusedVariables false
attribute [local go_sem] ba_size ba_append ba_get ba_extract take_drop_end
/-- What Take answers. -/
def takeER (s : List UInt8) : Ev × Nat := match takeE s with
  | none => ((0, 0, [], []), 3)
  | some x => (x, 0)
theorem takeE_two (a b : UInt8) (r : List UInt8) : takeE (a :: b :: r) = (if keyedE (a.toNat : Int) then
      if (Lm.takeTextL r 32).2.2 ≠ 0 then none
      else if (Lm.takeTextL (Lm.takeTextL r 32).2.1 32).2.2 ≠ 0 ∨ 0 < (Lm.takeTextL (Lm.takeTextL r 32).2.1 32).2.1.length then none
      else if mayE ((a.toNat : Int), (b.toNat : Int), (Lm.takeTextL r 32).1, (Lm.takeTextL (Lm.takeTextL r 32).2.1 32).1) then some ((a.toNat : Int), (b.toNat : Int), (Lm.takeTextL r 32).1, (Lm.takeTextL (Lm.takeTextL r 32).2.1 32).1) else none
    else if 0 < r.length ∨ ¬ mayE ((a.toNat : Int), (b.toNat : Int), [], []) then none else some ((a.toNat : Int), (b.toNat : Int), [], [])) := rfl
theorem i64_byte (b : UInt8) : IntKind.i64.wrap (b.toNat : Int) = b.toNat := by
  have := b.toNat_lt
  rw [IntKind.wrap_i64]; omega
theorem size_ev : (Try.prog.info? 30).map (·.size) = some 4 := by kernel_rfl
set_option maxHeartbeats 2000000 in
theorem rtake6_any (s : List UInt8) (hs : s.length ≤ 9223372036854775807) (w : World) :
    Calls Try.prog 70 #[.string ⟨s.toArray⟩] w fun e w' => e = .returned (.tuple #[evA (takeER s).1, .int .i64 ((takeER s).2 : Int)]) ∧ Below w.heap.size w w' := by
  have al : ∀ o, Below w.heap.size w (w.alloc o) := fun o => (Below.refl _ w).alloc (Nat.le_refl _) o
  have R0 := SBox.new w 30 #[.int .i64 0, .int .i64 0, .string ⟨#[]⟩, .string ⟨#[]⟩]
  have B0 := al (.cells #[.int .i64 0, .int .i64 0, .string ⟨#[]⟩, .string ⟨#[]⟩] 30)
  match s, hs with
  | [], _ =>
    go_enter Try.func70, Try.ntmps70
    go_wp2_with fail
    refine bodyPost_ret (v := .tuple #[evA (0, 0, [], []), .int .i64 3]) (results_row_tmp Try.results70 _ _ w.heap.size 30 _ (0, 0) _ rfl R0 Try.underlying30 rfl size_ev) rfl ⟨rfl, B0⟩
  | [x], _ =>
    go_enter Try.func70, Try.ntmps70
    go_wp2_with fail
    refine bodyPost_ret (v := .tuple #[evA (0, 0, [], []), .int .i64 3]) (results_row_tmp Try.results70 _ _ w.heap.size 30 _ (0, 0) _ rfl R0 Try.underlying30 rfl size_ev) rfl ⟨rfl, B0⟩
  | a :: b :: r, hs =>
    obtain ⟨S, hS⟩ : ∃ S, a :: b :: r = S := ⟨_, rfl⟩
    have HS : Hid (a :: b :: r = S) := hS
    have l2 : S.length = r.length + 2 := by rw [← hS]; rfl
    have l0 : 0 < S.length := by omega
    have l1 : 1 < S.length := by omega
    have g0 : S[0] = a := by simp only [← hS]; rfl
    have g1 : S[1] = b := by simp only [← hS]; rfl
    have hd : S.drop 2 = r := by rw [← hS]; rfl
    have b0 := i64_byte a
    have b1 := i64_byte b
    have L2 : ¬ (S.length : Int) < 2 := by omega
    have L1 : ¬ (S.length : Int) ≤ 1 := by omega
    have L0 : ¬ (S.length : Int) ≤ 0 := by omega
    have HL : Hid (S.length = r.length + 2) := l2
    have L3 : 2 ≤ S.length := by omega
    have hT := takeE_two a b r
    rw [hS] at hT
    rw [hS] at hs ⊢
    clear hS
    have E1 := al (.cells #[.int .i64 0, .int .i64 0, .string ⟨#[]⟩, .string ⟨#[]⟩] 30)
    have R1 : SBox ((w.alloc (.cells #[.int .i64 0, .int .i64 0, .string ⟨#[]⟩, .string ⟨#[]⟩] 30)).alloc (.cells #[.int .i64 (a.toNat : Int), .int .i64 (b.toNat : Int), .string ⟨#[]⟩, .string ⟨#[]⟩] 30)).drew w.heap.size 30 #[.int .i64 0, .int .i64 0, .string ⟨#[]⟩, .string ⟨#[]⟩] := (R0.alloc _).drew
    have X1 : SBox ((w.alloc (.cells #[.int .i64 0, .int .i64 0, .string ⟨#[]⟩, .string ⟨#[]⟩] 30)).alloc (.cells #[.int .i64 (a.toNat : Int), .int .i64 (b.toNat : Int), .string ⟨#[]⟩, .string ⟨#[]⟩] 30)).drew (w.heap.size + 1) 30 #[.int .i64 (a.toNat : Int), .int .i64 (b.toNat : Int), .string ⟨#[]⟩, .string ⟨#[]⟩] := by
      have := SBox.new (w.alloc (.cells #[.int .i64 0, .int .i64 0, .string ⟨#[]⟩, .string ⟨#[]⟩] 30)) 30 #[.int .i64 (a.toNat : Int), .int .i64 (b.toNat : Int), .string ⟨#[]⟩, .string ⟨#[]⟩]
      rw [show (w.alloc (.cells #[.int .i64 0, .int .i64 0, .string ⟨#[]⟩, .string ⟨#[]⟩] 30)).heap.size = w.heap.size + 1 by simp] at this
      exact this.drew
    have BW : Below w.heap.size w ((w.alloc (.cells #[.int .i64 0, .int .i64 0, .string ⟨#[]⟩, .string ⟨#[]⟩] 30)).alloc (.cells #[.int .i64 (a.toNat : Int), .int .i64 (b.toNat : Int), .string ⟨#[]⟩, .string ⟨#[]⟩] 30)).drew := (E1.alloc E1.size _).drew
    by_cases hk : keyedE (a.toNat : Int)
    · rw [if_pos hk] at hT
      have hTT := fun W => refTakeText_any (S.drop 2) 32 W (by rw [List.length_drop]; omega)
      rw [hd] at hTT
      have bd := takeTextL_bd r 32
      have hTU := fun W => refTakeText_any (Lm.takeTextL r 32).2.1 32 W (by omega)
      obtain ⟨⟨key, x, e1⟩, hx⟩ : ∃ y, Lm.takeTextL r 32 = y := ⟨_, rfl⟩
      rw [hx] at hTT hTU hT
      simp only at hTT hTU hT
      obtain ⟨⟨val, y, e2⟩, hy⟩ : ∃ z, Lm.takeTextL x 32 = z := ⟨_, rfl⟩
      rw [hy] at hTU hT
      simp only at hTU hT
      rw [← hd] at hTT
      have HT1 : Hid (∀ W, Calls Try.prog 77 #[.string ⟨(S.drop 2).toArray⟩, .int .i64 32] W fun e w' => e = .returned (.tuple #[.string ⟨key.toArray⟩, .string ⟨x.toArray⟩, .int .i64 (e1 : Int)]) ∧ Below W.heap.size W w') := hTT
      have HT2 : Hid (∀ W, Calls Try.prog 77 #[.string ⟨x.toArray⟩, .int .i64 32] W fun e w' => e = .returned (.tuple #[.string ⟨val.toArray⟩, .string ⟨y.toArray⟩, .int .i64 (e2 : Int)]) ∧ Below W.heap.size W w') := hTU
      clear hTT hTU hx hy bd hd
      have k23 : (a.toNat : Int) = 2 ∨ (a.toNat : Int) = 3 := hk
      have HK : Hid ((a.toNat : Int) = 2 ∨ (a.toNat : Int) = 3) := k23
      have qk : ((a.toNat : Int) != 2 && (a.toNat : Int) != 3) = false := by
        rcases k23 with h | h <;> rw [h] <;> rfl
      have q2 : ((a.toNat : Int) != 2) = false ∨ ((a.toNat : Int) != 2) = true ∧ ((a.toNat : Int) != 3) = false := by
        rcases k23 with h | h
        · left; rw [h]; rfl
        · right; rw [h]; exact ⟨rfl, rfl⟩
      clear k23 hk l2
      have lt2 : S.length - 2 ≤ S.length := by omega
      by_cases h1 : e1 = 0
      · subst h1
        rw [if_neg (by simp)] at hT
        by_cases h2 : e2 ≠ 0 ∨ 0 < y.length
        · rw [if_pos h2] at hT
          have HR : takeER S = ((0, 0, [], []), 3) := by unfold takeER; rw [hT]
          rw [HR]
          clear HR hT
          have j2 : ((e2 : Int) != 0) = true ∨ ((e2 : Int) != 0) = false ∧ (0 : Int) < (y.length : Int) := by
            by_cases h : e2 = 0
            · right; exact ⟨by rw [h]; rfl, by omega⟩
            · left; rw [bne_iff_ne]; omega
          clear h2
          rcases q2 with q2 | ⟨q2, q3⟩
          all_goals
            rcases j2 with j2 | ⟨j2, j3⟩
            all_goals
              go_enter Try.func70, Try.ntmps70
              go_wp2_with fail
              refine wp_region_any (by kernel_rfl) ?_
              change wpAny _ _ _ _ _ _ _ (World.drew _)
              refine wpAny_take (i := 0) (v := (.string ⟨S.toArray⟩)) rfl (by kernel_rfl) (by kernel_rfl) (by kernel_rfl) (fun _ _ _ h => h) (Or.inl ⟨by kernel_rfl, fun w => by go_simp⟩) ?_
              refine wpAny_take (i := 1) (v := (.int .u8 (a.toNat : Int))) rfl (by kernel_rfl) (by kernel_rfl) (by kernel_rfl) (fun _ _ _ h => h) (Or.inl ⟨by kernel_rfl, fun w => by go_simp⟩) ?_
              refine wpAny_take (i := 2) (v := (.int .i64 (a.toNat : Int))) rfl (by kernel_rfl) (by kernel_rfl) (by kernel_rfl) (fun _ _ _ h => h) (Or.inl ⟨by kernel_rfl, fun w => by go_simp⟩) ?_
              refine wpAny_take (i := 3) (v := (.string ⟨S.toArray⟩)) rfl (by kernel_rfl) (by kernel_rfl) (by kernel_rfl) (fun _ _ _ h => h) (Or.inl ⟨by kernel_rfl, fun w => by go_simp⟩) ?_
              refine wpAny_take (i := 4) (v := (.int .u8 (b.toNat : Int))) rfl (by kernel_rfl) (by kernel_rfl) (by kernel_rfl) (fun _ _ _ h => h) (Or.inl ⟨by kernel_rfl, fun w => by go_simp⟩) ?_
              refine wpAny_take (i := 5) (v := (.int .i64 (b.toNat : Int))) rfl (by kernel_rfl) (by kernel_rfl) (by kernel_rfl) (fun _ _ _ h => h) (Or.inl ⟨by kernel_rfl, fun w => by go_simp⟩) ?_
              refine wpAny_take (i := 6) (v := (.agg #[.int .i64 (a.toNat : Int), .int .i64 (b.toNat : Int), .string ⟨#[]⟩, .string ⟨#[]⟩])) rfl (by kernel_rfl) (by kernel_rfl) (by kernel_rfl) (fun _ _ _ h => h) (Or.inl ⟨by kernel_rfl, fun w => by go_simp⟩) ?_
              refine any_seqI [7, 8] [_, _] _ _ _ rfl (by kernel_rfl) ?_
              go_wp2_with fail
              refine (HT1.out _).mono ?_
              rintro e w2 ⟨rfl, c2⟩
              have R2 := R1.below c2
              go_wp2_with fail
              refine (HT2.out _).mono ?_
              rintro e w3 ⟨rfl, c3⟩
              have R3 := R2.below c3
              have rc0 := R3.cell 0 _ rfl
              have rf0 := R3.frozen 0
              have rc1 := R3.cell 1 _ rfl
              have rf1 := R3.frozen 1
              have rc2 := R3.cell 2 _ rfl
              have rf2 := R3.frozen 2
              have rc3 := R3.cell 3 _ rfl
              have rf3 := R3.frozen 3
              have B3 := bel_trans (bel_trans BW c2) c3
              go_wp2_with fail
              generalize hW : World.setCell _ _ _ = W
              have RW : SBox W w.heap.size 30 #[.int .i64 0, .int .i64 0, .string ⟨#[]⟩, .string ⟨#[]⟩] := by rw [← hW]; exact R3.put4 _ _ _ _
              have BZ : Below w.heap.size w W := by rw [← hW]; exact bel_put4 B3 (Nat.le_refl _) _ _ _ _
              exact bodyPost_ret (v := .tuple #[evA (0, 0, [], []), .int .i64 3]) (results_row_tmp Try.results70 _ _ w.heap.size 30 _ (0, 0) _ rfl RW Try.underlying30 rfl size_ev) rfl ⟨rfl, BZ⟩
        · rw [if_neg h2] at hT
          have h20 : e2 = 0 := by omega
          subst h20
          have j3 : ¬ (0 : Int) < (y.length : Int) := by omega
          clear h2
          have M : Hid (∀ W, Calls Try.prog 32 #[.agg #[.int .i64 (a.toNat : Int), .int .i64 (b.toNat : Int), .string ⟨key.toArray⟩, .string ⟨val.toArray⟩]] W fun e w' => e = .returned (.bool (decide (mayE ((a.toNat : Int), (b.toNat : Int), key, val)))) ∧ Below W.heap.size W w') := fun W => rmay_any _ _ key val W
          by_cases hm : mayE ((a.toNat : Int), (b.toNat : Int), key, val)
          · rw [if_pos hm] at hT
            rw [decide_eq_true hm] at M
            have HR : takeER S = (((a.toNat : Int), (b.toNat : Int), key, val), 0) := by unfold takeER; rw [hT]
            rw [HR]
            clear HR hT hm
            rcases q2 with q2 | ⟨q2, q3⟩
            all_goals
              go_enter Try.func70, Try.ntmps70
              go_wp2_with fail
              refine wp_region_any (by kernel_rfl) ?_
              change wpAny _ _ _ _ _ _ _ (World.drew _)
              refine wpAny_take (i := 0) (v := (.string ⟨S.toArray⟩)) rfl (by kernel_rfl) (by kernel_rfl) (by kernel_rfl) (fun _ _ _ h => h) (Or.inl ⟨by kernel_rfl, fun w => by go_simp⟩) ?_
              refine wpAny_take (i := 1) (v := (.int .u8 (a.toNat : Int))) rfl (by kernel_rfl) (by kernel_rfl) (by kernel_rfl) (fun _ _ _ h => h) (Or.inl ⟨by kernel_rfl, fun w => by go_simp⟩) ?_
              refine wpAny_take (i := 2) (v := (.int .i64 (a.toNat : Int))) rfl (by kernel_rfl) (by kernel_rfl) (by kernel_rfl) (fun _ _ _ h => h) (Or.inl ⟨by kernel_rfl, fun w => by go_simp⟩) ?_
              refine wpAny_take (i := 3) (v := (.string ⟨S.toArray⟩)) rfl (by kernel_rfl) (by kernel_rfl) (by kernel_rfl) (fun _ _ _ h => h) (Or.inl ⟨by kernel_rfl, fun w => by go_simp⟩) ?_
              refine wpAny_take (i := 4) (v := (.int .u8 (b.toNat : Int))) rfl (by kernel_rfl) (by kernel_rfl) (by kernel_rfl) (fun _ _ _ h => h) (Or.inl ⟨by kernel_rfl, fun w => by go_simp⟩) ?_
              refine wpAny_take (i := 5) (v := (.int .i64 (b.toNat : Int))) rfl (by kernel_rfl) (by kernel_rfl) (by kernel_rfl) (fun _ _ _ h => h) (Or.inl ⟨by kernel_rfl, fun w => by go_simp⟩) ?_
              refine wpAny_take (i := 6) (v := (.agg #[.int .i64 (a.toNat : Int), .int .i64 (b.toNat : Int), .string ⟨#[]⟩, .string ⟨#[]⟩])) rfl (by kernel_rfl) (by kernel_rfl) (by kernel_rfl) (fun _ _ _ h => h) (Or.inl ⟨by kernel_rfl, fun w => by go_simp⟩) ?_
              refine any_seqI [7, 8] [_, _] _ _ _ rfl (by kernel_rfl) ?_
              go_wp2_with fail
              refine (HT1.out _).mono ?_
              rintro e w2 ⟨rfl, c2⟩
              have R2 := R1.below c2
              have X2 := X1.below c2
              go_wp2_with fail
              refine (HT2.out _).mono ?_
              rintro e w3 ⟨rfl, c3⟩
              have R3 := R2.below c3
              have X3 := X2.below c3
              have B3 := bel_trans (bel_trans BW c2) c3
              have xc0 := X3.cell 0 _ rfl
              have xc1 := X3.cell 1 _ rfl
              have xc2 := X3.cell 2 _ rfl
              have xc3 := X3.cell 3 _ rfl
              have xf2 := X3.frozen 2
              have xf3 := X3.frozen 3
              have X4 := (X3.set 2 (.string ⟨key.toArray⟩)).set 3 (.string ⟨val.toArray⟩)
              have R4 := (R3.other (w.heap.size + 1) 2 (.string ⟨key.toArray⟩) (by omega)).other (w.heap.size + 1) 3 (.string ⟨val.toArray⟩) (by omega)
              have B4 := (B3.setCell (p := ⟨w.heap.size + 1, 2, none⟩) (by show w.heap.size ≤ w.heap.size + 1; omega) (.string ⟨key.toArray⟩)).setCell (p := ⟨w.heap.size + 1, 3, none⟩) (by show w.heap.size ≤ w.heap.size + 1; omega) (.string ⟨val.toArray⟩)
              go_wp2_with fail
              refine (M.out _).mono ?_
              rintro e w5 ⟨rfl, c5⟩
              have R5 := R4.below c5
              have X5 := X4.below c5
              have B5 := bel_trans B4 c5
              clear xc0 xc1 xc2 xc3 xf2 xf3
              have rc0 := R5.cell 0 _ rfl
              have rf0 := R5.frozen 0
              have rc1 := R5.cell 1 _ rfl
              have rf1 := R5.frozen 1
              have rc2 := R5.cell 2 _ rfl
              have rf2 := R5.frozen 2
              have rc3 := R5.cell 3 _ rfl
              have rf3 := R5.frozen 3
              have xd0 := X5.cell 0 _ rfl
              have xd1 := X5.cell 1 _ rfl
              have xd2 := X5.cell 2 _ rfl
              have xd3 := X5.cell 3 _ rfl
              go_wp2_with fail
              generalize hW : World.setCell _ _ _ = W
              have RW : SBox W w.heap.size 30 #[.int .i64 (a.toNat : Int), .int .i64 (b.toNat : Int), .string ⟨key.toArray⟩, .string ⟨val.toArray⟩] := by rw [← hW]; exact R5.put4 _ _ _ _
              have BZ : Below w.heap.size w W := by rw [← hW]; exact bel_put4 B5 (Nat.le_refl _) _ _ _ _
              exact bodyPost_ret (v := .tuple #[evA ((a.toNat : Int), (b.toNat : Int), key, val), .int .i64 0]) (results_row_tmp Try.results70 _ _ w.heap.size 30 _ (0, 0) _ rfl RW Try.underlying30 rfl size_ev) rfl ⟨rfl, BZ⟩
          · rw [if_neg hm] at hT
            rw [decide_eq_false hm] at M
            have HR : takeER S = ((0, 0, [], []), 3) := by unfold takeER; rw [hT]
            rw [HR]
            clear HR hT hm
            rcases q2 with q2 | ⟨q2, q3⟩
            all_goals
              go_enter Try.func70, Try.ntmps70
              go_wp2_with fail
              refine wp_region_any (by kernel_rfl) ?_
              change wpAny _ _ _ _ _ _ _ (World.drew _)
              refine wpAny_take (i := 0) (v := (.string ⟨S.toArray⟩)) rfl (by kernel_rfl) (by kernel_rfl) (by kernel_rfl) (fun _ _ _ h => h) (Or.inl ⟨by kernel_rfl, fun w => by go_simp⟩) ?_
              refine wpAny_take (i := 1) (v := (.int .u8 (a.toNat : Int))) rfl (by kernel_rfl) (by kernel_rfl) (by kernel_rfl) (fun _ _ _ h => h) (Or.inl ⟨by kernel_rfl, fun w => by go_simp⟩) ?_
              refine wpAny_take (i := 2) (v := (.int .i64 (a.toNat : Int))) rfl (by kernel_rfl) (by kernel_rfl) (by kernel_rfl) (fun _ _ _ h => h) (Or.inl ⟨by kernel_rfl, fun w => by go_simp⟩) ?_
              refine wpAny_take (i := 3) (v := (.string ⟨S.toArray⟩)) rfl (by kernel_rfl) (by kernel_rfl) (by kernel_rfl) (fun _ _ _ h => h) (Or.inl ⟨by kernel_rfl, fun w => by go_simp⟩) ?_
              refine wpAny_take (i := 4) (v := (.int .u8 (b.toNat : Int))) rfl (by kernel_rfl) (by kernel_rfl) (by kernel_rfl) (fun _ _ _ h => h) (Or.inl ⟨by kernel_rfl, fun w => by go_simp⟩) ?_
              refine wpAny_take (i := 5) (v := (.int .i64 (b.toNat : Int))) rfl (by kernel_rfl) (by kernel_rfl) (by kernel_rfl) (fun _ _ _ h => h) (Or.inl ⟨by kernel_rfl, fun w => by go_simp⟩) ?_
              refine wpAny_take (i := 6) (v := (.agg #[.int .i64 (a.toNat : Int), .int .i64 (b.toNat : Int), .string ⟨#[]⟩, .string ⟨#[]⟩])) rfl (by kernel_rfl) (by kernel_rfl) (by kernel_rfl) (fun _ _ _ h => h) (Or.inl ⟨by kernel_rfl, fun w => by go_simp⟩) ?_
              refine any_seqI [7, 8] [_, _] _ _ _ rfl (by kernel_rfl) ?_
              go_wp2_with fail
              refine (HT1.out _).mono ?_
              rintro e w2 ⟨rfl, c2⟩
              have R2 := R1.below c2
              have X2 := X1.below c2
              go_wp2_with fail
              refine (HT2.out _).mono ?_
              rintro e w3 ⟨rfl, c3⟩
              have R3 := R2.below c3
              have X3 := X2.below c3
              have B3 := bel_trans (bel_trans BW c2) c3
              have xc0 := X3.cell 0 _ rfl
              have xc1 := X3.cell 1 _ rfl
              have xc2 := X3.cell 2 _ rfl
              have xc3 := X3.cell 3 _ rfl
              have xf2 := X3.frozen 2
              have xf3 := X3.frozen 3
              have X4 := (X3.set 2 (.string ⟨key.toArray⟩)).set 3 (.string ⟨val.toArray⟩)
              have R4 := (R3.other (w.heap.size + 1) 2 (.string ⟨key.toArray⟩) (by omega)).other (w.heap.size + 1) 3 (.string ⟨val.toArray⟩) (by omega)
              have B4 := (B3.setCell (p := ⟨w.heap.size + 1, 2, none⟩) (by show w.heap.size ≤ w.heap.size + 1; omega) (.string ⟨key.toArray⟩)).setCell (p := ⟨w.heap.size + 1, 3, none⟩) (by show w.heap.size ≤ w.heap.size + 1; omega) (.string ⟨val.toArray⟩)
              go_wp2_with fail
              refine (M.out _).mono ?_
              rintro e w5 ⟨rfl, c5⟩
              have R5 := R4.below c5
              have X5 := X4.below c5
              have B5 := bel_trans B4 c5
              clear xc0 xc1 xc2 xc3 xf2 xf3
              have rc0 := R5.cell 0 _ rfl
              have rf0 := R5.frozen 0
              have rc1 := R5.cell 1 _ rfl
              have rf1 := R5.frozen 1
              have rc2 := R5.cell 2 _ rfl
              have rf2 := R5.frozen 2
              have rc3 := R5.cell 3 _ rfl
              have rf3 := R5.frozen 3
              go_wp2_with fail
              generalize hW : World.setCell _ _ _ = W
              have RW : SBox W w.heap.size 30 #[.int .i64 0, .int .i64 0, .string ⟨#[]⟩, .string ⟨#[]⟩] := by rw [← hW]; exact R5.put4 _ _ _ _
              have BZ : Below w.heap.size w W := by rw [← hW]; exact bel_put4 B5 (Nat.le_refl _) _ _ _ _
              exact bodyPost_ret (v := .tuple #[evA (0, 0, [], []), .int .i64 3]) (results_row_tmp Try.results70 _ _ w.heap.size 30 _ (0, 0) _ rfl RW Try.underlying30 rfl size_ev) rfl ⟨rfl, BZ⟩
      · rw [if_pos h1] at hT
        have HR : takeER S = ((0, 0, [], []), 3) := by unfold takeER; rw [hT]
        rw [HR]
        clear HR hT
        have j1 : ((e1 : Int) != 0) = true := by rw [bne_iff_ne]; omega
        rcases q2 with q2 | ⟨q2, q3⟩
        all_goals
          go_enter Try.func70, Try.ntmps70
          go_wp2_with fail
          refine wp_region_any (by kernel_rfl) ?_
          change wpAny _ _ _ _ _ _ _ (World.drew _)
          refine wpAny_take (i := 0) (v := (.string ⟨S.toArray⟩)) rfl (by kernel_rfl) (by kernel_rfl) (by kernel_rfl) (fun _ _ _ h => h) (Or.inl ⟨by kernel_rfl, fun w => by go_simp⟩) ?_
          refine wpAny_take (i := 1) (v := (.int .u8 (a.toNat : Int))) rfl (by kernel_rfl) (by kernel_rfl) (by kernel_rfl) (fun _ _ _ h => h) (Or.inl ⟨by kernel_rfl, fun w => by go_simp⟩) ?_
          refine wpAny_take (i := 2) (v := (.int .i64 (a.toNat : Int))) rfl (by kernel_rfl) (by kernel_rfl) (by kernel_rfl) (fun _ _ _ h => h) (Or.inl ⟨by kernel_rfl, fun w => by go_simp⟩) ?_
          refine wpAny_take (i := 3) (v := (.string ⟨S.toArray⟩)) rfl (by kernel_rfl) (by kernel_rfl) (by kernel_rfl) (fun _ _ _ h => h) (Or.inl ⟨by kernel_rfl, fun w => by go_simp⟩) ?_
          refine wpAny_take (i := 4) (v := (.int .u8 (b.toNat : Int))) rfl (by kernel_rfl) (by kernel_rfl) (by kernel_rfl) (fun _ _ _ h => h) (Or.inl ⟨by kernel_rfl, fun w => by go_simp⟩) ?_
          refine wpAny_take (i := 5) (v := (.int .i64 (b.toNat : Int))) rfl (by kernel_rfl) (by kernel_rfl) (by kernel_rfl) (fun _ _ _ h => h) (Or.inl ⟨by kernel_rfl, fun w => by go_simp⟩) ?_
          refine wpAny_take (i := 6) (v := (.agg #[.int .i64 (a.toNat : Int), .int .i64 (b.toNat : Int), .string ⟨#[]⟩, .string ⟨#[]⟩])) rfl (by kernel_rfl) (by kernel_rfl) (by kernel_rfl) (fun _ _ _ h => h) (Or.inl ⟨by kernel_rfl, fun w => by go_simp⟩) ?_
          refine any_seqI [7, 8] [_, _] _ _ _ rfl (by kernel_rfl) ?_
          go_wp2_with fail
          refine (HT1.out _).mono ?_
          rintro e w2 ⟨rfl, c2⟩
          have R2 := R1.below c2
          have rc0 := R2.cell 0 _ rfl
          have rf0 := R2.frozen 0
          have rc1 := R2.cell 1 _ rfl
          have rf1 := R2.frozen 1
          have rc2 := R2.cell 2 _ rfl
          have rf2 := R2.frozen 2
          have rc3 := R2.cell 3 _ rfl
          have rf3 := R2.frozen 3
          have B2 := bel_trans BW c2
          go_wp2_with fail
          generalize hW : World.setCell _ _ _ = W
          have RW : SBox W w.heap.size 30 #[.int .i64 0, .int .i64 0, .string ⟨#[]⟩, .string ⟨#[]⟩] := by rw [← hW]; exact R2.put4 _ _ _ _
          have BZ : Below w.heap.size w W := by rw [← hW]; exact bel_put4 B2 (Nat.le_refl _) _ _ _ _
          exact bodyPost_ret (v := .tuple #[evA (0, 0, [], []), .int .i64 3]) (results_row_tmp Try.results70 _ _ w.heap.size 30 _ (0, 0) _ rfl RW Try.underlying30 rfl size_ev) rfl ⟨rfl, BZ⟩
    · rw [if_neg hk] at hT
      have q2 : ((a.toNat : Int) != 2) = true := by rw [bne_iff_ne]; exact fun h => hk (Or.inl h)
      have q3 : ((a.toNat : Int) != 3) = true := by rw [bne_iff_ne]; exact fun h => hk (Or.inr h)
      have M : Hid (∀ W, Calls Try.prog 32 #[.agg #[.int .i64 (a.toNat : Int), .int .i64 (b.toNat : Int), .string ⟨#[]⟩, .string ⟨#[]⟩]] W fun e w' => e = .returned (.bool (decide (mayE ((a.toNat : Int), (b.toNat : Int), [], [])))) ∧ Below W.heap.size W w') := fun W => rmay_any _ _ [] [] W
      clear hk hd
      by_cases hr : 0 < r.length
      · rw [if_pos (Or.inl hr)] at hT
        have HR : takeER S = ((0, 0, [], []), 3) := by unfold takeER; rw [hT]
        rw [HR]
        have j1 : (2 : Int) < (S.length : Int) := by omega
        clear HR hT hr l2
        go_enter Try.func70, Try.ntmps70
        go_wp2_with fail
        refine wp_region_any (by kernel_rfl) ?_
        change wpAny _ _ _ _ _ _ _ (World.drew _)
        refine wpAny_take (i := 0) (v := (.string ⟨S.toArray⟩)) rfl (by kernel_rfl) (by kernel_rfl) (by kernel_rfl) (fun _ _ _ h => h) (Or.inl ⟨by kernel_rfl, fun w => by go_simp⟩) ?_
        refine wpAny_take (i := 1) (v := (.int .u8 (a.toNat : Int))) rfl (by kernel_rfl) (by kernel_rfl) (by kernel_rfl) (fun _ _ _ h => h) (Or.inl ⟨by kernel_rfl, fun w => by go_simp⟩) ?_
        refine wpAny_take (i := 2) (v := (.int .i64 (a.toNat : Int))) rfl (by kernel_rfl) (by kernel_rfl) (by kernel_rfl) (fun _ _ _ h => h) (Or.inl ⟨by kernel_rfl, fun w => by go_simp⟩) ?_
        refine wpAny_take (i := 3) (v := (.string ⟨S.toArray⟩)) rfl (by kernel_rfl) (by kernel_rfl) (by kernel_rfl) (fun _ _ _ h => h) (Or.inl ⟨by kernel_rfl, fun w => by go_simp⟩) ?_
        refine wpAny_take (i := 4) (v := (.int .u8 (b.toNat : Int))) rfl (by kernel_rfl) (by kernel_rfl) (by kernel_rfl) (fun _ _ _ h => h) (Or.inl ⟨by kernel_rfl, fun w => by go_simp⟩) ?_
        refine wpAny_take (i := 5) (v := (.int .i64 (b.toNat : Int))) rfl (by kernel_rfl) (by kernel_rfl) (by kernel_rfl) (fun _ _ _ h => h) (Or.inl ⟨by kernel_rfl, fun w => by go_simp⟩) ?_
        refine wpAny_take (i := 6) (v := (.agg #[.int .i64 (a.toNat : Int), .int .i64 (b.toNat : Int), .string ⟨#[]⟩, .string ⟨#[]⟩])) rfl (by kernel_rfl) (by kernel_rfl) (by kernel_rfl) (fun _ _ _ h => h) (Or.inl ⟨by kernel_rfl, fun w => by go_simp⟩) ?_
        refine any_seqI [7, 8] [_, _] _ _ _ rfl (by kernel_rfl) ?_
        go_wp2_with fail
        refine (M.out _).mono ?_
        rintro e w2 ⟨rfl, c2⟩
        have R2 := R1.below c2
        have rc0 := R2.cell 0 _ rfl
        have rf0 := R2.frozen 0
        have rc1 := R2.cell 1 _ rfl
        have rf1 := R2.frozen 1
        have rc2 := R2.cell 2 _ rfl
        have rf2 := R2.frozen 2
        have rc3 := R2.cell 3 _ rfl
        have rf3 := R2.frozen 3
        have B2 := bel_trans BW c2
        go_wp2_with fail
        generalize hW : World.setCell _ _ _ = W
        have RW : SBox W w.heap.size 30 #[.int .i64 0, .int .i64 0, .string ⟨#[]⟩, .string ⟨#[]⟩] := by rw [← hW]; exact R2.put4 _ _ _ _
        have BZ : Below w.heap.size w W := by rw [← hW]; exact bel_put4 B2 (Nat.le_refl _) _ _ _ _
        exact bodyPost_ret (v := .tuple #[evA (0, 0, [], []), .int .i64 3]) (results_row_tmp Try.results70 _ _ w.heap.size 30 _ (0, 0) _ rfl RW Try.underlying30 rfl size_ev) rfl ⟨rfl, BZ⟩
      · have j1 : ¬ (2 : Int) < (S.length : Int) := by omega
        clear l2
        by_cases hm : mayE ((a.toNat : Int), (b.toNat : Int), [], [])
        · rw [if_neg (by intro h; rcases h with h | h; exact hr h; exact h hm)] at hT
          rw [decide_eq_true hm] at M
          have HR : takeER S = (((a.toNat : Int), (b.toNat : Int), [], []), 0) := by unfold takeER; rw [hT]
          rw [HR]
          clear HR hT hr hm
          go_enter Try.func70, Try.ntmps70
          go_wp2_with fail
          refine wp_region_any (by kernel_rfl) ?_
          change wpAny _ _ _ _ _ _ _ (World.drew _)
          refine wpAny_take (i := 0) (v := (.string ⟨S.toArray⟩)) rfl (by kernel_rfl) (by kernel_rfl) (by kernel_rfl) (fun _ _ _ h => h) (Or.inl ⟨by kernel_rfl, fun w => by go_simp⟩) ?_
          refine wpAny_take (i := 1) (v := (.int .u8 (a.toNat : Int))) rfl (by kernel_rfl) (by kernel_rfl) (by kernel_rfl) (fun _ _ _ h => h) (Or.inl ⟨by kernel_rfl, fun w => by go_simp⟩) ?_
          refine wpAny_take (i := 2) (v := (.int .i64 (a.toNat : Int))) rfl (by kernel_rfl) (by kernel_rfl) (by kernel_rfl) (fun _ _ _ h => h) (Or.inl ⟨by kernel_rfl, fun w => by go_simp⟩) ?_
          refine wpAny_take (i := 3) (v := (.string ⟨S.toArray⟩)) rfl (by kernel_rfl) (by kernel_rfl) (by kernel_rfl) (fun _ _ _ h => h) (Or.inl ⟨by kernel_rfl, fun w => by go_simp⟩) ?_
          refine wpAny_take (i := 4) (v := (.int .u8 (b.toNat : Int))) rfl (by kernel_rfl) (by kernel_rfl) (by kernel_rfl) (fun _ _ _ h => h) (Or.inl ⟨by kernel_rfl, fun w => by go_simp⟩) ?_
          refine wpAny_take (i := 5) (v := (.int .i64 (b.toNat : Int))) rfl (by kernel_rfl) (by kernel_rfl) (by kernel_rfl) (fun _ _ _ h => h) (Or.inl ⟨by kernel_rfl, fun w => by go_simp⟩) ?_
          refine wpAny_take (i := 6) (v := (.agg #[.int .i64 (a.toNat : Int), .int .i64 (b.toNat : Int), .string ⟨#[]⟩, .string ⟨#[]⟩])) rfl (by kernel_rfl) (by kernel_rfl) (by kernel_rfl) (fun _ _ _ h => h) (Or.inl ⟨by kernel_rfl, fun w => by go_simp⟩) ?_
          refine any_seqI [7, 8] [_, _] _ _ _ rfl (by kernel_rfl) ?_
          go_wp2_with fail
          refine (M.out _).mono ?_
          rintro e w2 ⟨rfl, c2⟩
          have R2 := R1.below c2
          have X2 := X1.below c2
          have rc0 := R2.cell 0 _ rfl
          have rf0 := R2.frozen 0
          have rc1 := R2.cell 1 _ rfl
          have rf1 := R2.frozen 1
          have rc2 := R2.cell 2 _ rfl
          have rf2 := R2.frozen 2
          have rc3 := R2.cell 3 _ rfl
          have rf3 := R2.frozen 3
          have xd0 := X2.cell 0 _ rfl
          have xd1 := X2.cell 1 _ rfl
          have xd2 := X2.cell 2 _ rfl
          have xd3 := X2.cell 3 _ rfl
          have B2 := bel_trans BW c2
          go_wp2_with fail
          generalize hW : World.setCell _ _ _ = W
          have RW : SBox W w.heap.size 30 #[.int .i64 (a.toNat : Int), .int .i64 (b.toNat : Int), .string ⟨#[]⟩, .string ⟨#[]⟩] := by rw [← hW]; exact R2.put4 _ _ _ _
          have BZ : Below w.heap.size w W := by rw [← hW]; exact bel_put4 B2 (Nat.le_refl _) _ _ _ _
          exact bodyPost_ret (v := .tuple #[evA ((a.toNat : Int), (b.toNat : Int), [], []), .int .i64 0]) (results_row_tmp Try.results70 _ _ w.heap.size 30 _ (0, 0) _ rfl RW Try.underlying30 rfl size_ev) rfl ⟨rfl, BZ⟩
        · rw [if_pos (Or.inr hm)] at hT
          rw [decide_eq_false hm] at M
          have HR : takeER S = ((0, 0, [], []), 3) := by unfold takeER; rw [hT]
          rw [HR]
          clear HR hT hr hm
          go_enter Try.func70, Try.ntmps70
          go_wp2_with fail
          refine wp_region_any (by kernel_rfl) ?_
          change wpAny _ _ _ _ _ _ _ (World.drew _)
          refine wpAny_take (i := 0) (v := (.string ⟨S.toArray⟩)) rfl (by kernel_rfl) (by kernel_rfl) (by kernel_rfl) (fun _ _ _ h => h) (Or.inl ⟨by kernel_rfl, fun w => by go_simp⟩) ?_
          refine wpAny_take (i := 1) (v := (.int .u8 (a.toNat : Int))) rfl (by kernel_rfl) (by kernel_rfl) (by kernel_rfl) (fun _ _ _ h => h) (Or.inl ⟨by kernel_rfl, fun w => by go_simp⟩) ?_
          refine wpAny_take (i := 2) (v := (.int .i64 (a.toNat : Int))) rfl (by kernel_rfl) (by kernel_rfl) (by kernel_rfl) (fun _ _ _ h => h) (Or.inl ⟨by kernel_rfl, fun w => by go_simp⟩) ?_
          refine wpAny_take (i := 3) (v := (.string ⟨S.toArray⟩)) rfl (by kernel_rfl) (by kernel_rfl) (by kernel_rfl) (fun _ _ _ h => h) (Or.inl ⟨by kernel_rfl, fun w => by go_simp⟩) ?_
          refine wpAny_take (i := 4) (v := (.int .u8 (b.toNat : Int))) rfl (by kernel_rfl) (by kernel_rfl) (by kernel_rfl) (fun _ _ _ h => h) (Or.inl ⟨by kernel_rfl, fun w => by go_simp⟩) ?_
          refine wpAny_take (i := 5) (v := (.int .i64 (b.toNat : Int))) rfl (by kernel_rfl) (by kernel_rfl) (by kernel_rfl) (fun _ _ _ h => h) (Or.inl ⟨by kernel_rfl, fun w => by go_simp⟩) ?_
          refine wpAny_take (i := 6) (v := (.agg #[.int .i64 (a.toNat : Int), .int .i64 (b.toNat : Int), .string ⟨#[]⟩, .string ⟨#[]⟩])) rfl (by kernel_rfl) (by kernel_rfl) (by kernel_rfl) (fun _ _ _ h => h) (Or.inl ⟨by kernel_rfl, fun w => by go_simp⟩) ?_
          refine any_seqI [7, 8] [_, _] _ _ _ rfl (by kernel_rfl) ?_
          go_wp2_with fail
          refine (M.out _).mono ?_
          rintro e w2 ⟨rfl, c2⟩
          have R2 := R1.below c2
          have rc0 := R2.cell 0 _ rfl
          have rf0 := R2.frozen 0
          have rc1 := R2.cell 1 _ rfl
          have rf1 := R2.frozen 1
          have rc2 := R2.cell 2 _ rfl
          have rf2 := R2.frozen 2
          have rc3 := R2.cell 3 _ rfl
          have rf3 := R2.frozen 3
          have B2 := bel_trans BW c2
          go_wp2_with fail
          generalize hW : World.setCell _ _ _ = W
          have RW : SBox W w.heap.size 30 #[.int .i64 0, .int .i64 0, .string ⟨#[]⟩, .string ⟨#[]⟩] := by rw [← hW]; exact R2.put4 _ _ _ _
          have BZ : Below w.heap.size w W := by rw [← hW]; exact bel_put4 B2 (Nat.le_refl _) _ _ _ _
          exact bodyPost_ret (v := .tuple #[evA (0, 0, [], []), .int .i64 3]) (results_row_tmp Try.results70 _ _ w.heap.size 30 _ (0, 0) _ rfl RW Try.underlying30 rfl size_ev) rfl ⟨rfl, BZ⟩
end Go.Proofs.Ytngllioidfffdaa
