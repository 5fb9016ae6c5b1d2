/-
  What event.Take answers.
-/
import Derived.Test.YtngllioidfffdaaZP6Small
import Derived.Test.YtngllioidfffdaaZR6Take
import Derived.Test.YtngllioidfffdaaGJ
import Derived.Test.YtngllioidfffdaaGC
namespace Go.Proofs.Ytngllioidfffdaa
set_option maxRecDepth 100000
open Go.RowKit
set_option linter.unusedVariables false
attribute [local go_sem] ba_size ba_append ba_get ba_extract take_drop_end
theorem takeER_bad {s : List UInt8} (h : takeE s = none) : takeER s = ((0, 0, [], []), 3) := by unfold takeER; rw [h]
theorem takeER_ok {s : List UInt8} {x : Ev} (h : takeE s = some x) : takeER s = (x, 0) := by unfold takeER; rw [h]
set_option maxHeartbeats 4000000 in
theorem ptake6_any (s : List UInt8) (hs : s.length ≤ 9223372036854770000) (w : World) :
    Calls Try.prog 68 #[.string ⟨s.toArray⟩] w fun e w' => e = .returned (.tuple #[evA (takeER s).1, .int .i64 ((takeER s).2 : Int)]) ∧ Below w.heap.size w w' := by
  have al : ∀ o, Below w.heap.size w (w.alloc o) := fun o => (Below.refl _ w).alloc (Nat.le_refl _) o
  have R0 := SBox.new w 30 #[.int .i64 0, .int .i64 0, .string ⟨#[]⟩, .string ⟨#[]⟩]
  have B0 := al (.cells #[.int .i64 0, .int .i64 0, .string ⟨#[]⟩, .string ⟨#[]⟩] 30)
  match s, hs with
  | [], _ =>
    go_enter Try.func68, Try.ntmps68
    go_wp2_with fail
    refine bodyPost_ret (v := .tuple #[evA (0, 0, [], []), .int .i64 3]) (results_row_tmp Try.results68 _ _ w.heap.size 30 _ (0, 0) _ rfl R0 Try.underlying30 rfl size_ev) rfl ⟨rfl, B0⟩
  | [x], _ =>
    go_enter Try.func68, Try.ntmps68
    go_wp2_with fail
    refine bodyPost_ret (v := .tuple #[evA (0, 0, [], []), .int .i64 3]) (results_row_tmp Try.results68 _ _ w.heap.size 30 _ (0, 0) _ rfl R0 Try.underlying30 rfl size_ev) rfl ⟨rfl, B0⟩
  | a :: b :: r, hs =>
    obtain ⟨S, hS⟩ : ∃ S, a :: b :: r = S := ⟨_, rfl⟩
    have HS : Hid (a :: b :: r = S) := hS
    have l2 : S.length = r.length + 2 := by rw [← hS]; rfl
    have l0 : 0 < S.length := by omega
    have l1 : 1 < S.length := by omega
    have g0 : S[0] = a := by simp only [← hS]; rfl
    have g1 : S[1] = b := by simp only [← hS]; rfl
    have hd : S.drop 2 = r := by rw [← hS]; rfl
    have b0 := i64_byte a
    have b1 := i64_byte b
    have L2 : ¬ (S.length : Int) < 2 := by omega
    have L1 : ¬ (S.length : Int) ≤ 1 := by omega
    have L0 : ¬ (S.length : Int) ≤ 0 := by omega
    have L3 : 2 ≤ S.length := by omega
    have ht2 : r.take (S.length - 2) = r := List.take_of_length_le (by omega)
    have hT := takeE_two a b r
    rw [hS] at hT
    rw [hS] at hs ⊢
    have rb : r.length ≤ 9223372036854770000 := by omega
    clear hS
    have E1 := al (.cells #[.int .i64 0, .int .i64 0, .string ⟨#[]⟩, .string ⟨#[]⟩] 30)
    have R1 : SBox ((w.alloc (.cells #[.int .i64 0, .int .i64 0, .string ⟨#[]⟩, .string ⟨#[]⟩] 30)).alloc (.cells #[.int .i64 (a.toNat : Int), .int .i64 (b.toNat : Int), .string ⟨#[]⟩, .string ⟨#[]⟩] 30)).drew w.heap.size 30 #[.int .i64 0, .int .i64 0, .string ⟨#[]⟩, .string ⟨#[]⟩] := (R0.alloc _).drew
    have X1 : SBox ((w.alloc (.cells #[.int .i64 0, .int .i64 0, .string ⟨#[]⟩, .string ⟨#[]⟩] 30)).alloc (.cells #[.int .i64 (a.toNat : Int), .int .i64 (b.toNat : Int), .string ⟨#[]⟩, .string ⟨#[]⟩] 30)).drew (w.heap.size + 1) 30 #[.int .i64 (a.toNat : Int), .int .i64 (b.toNat : Int), .string ⟨#[]⟩, .string ⟨#[]⟩] := by
      have := SBox.new (w.alloc (.cells #[.int .i64 0, .int .i64 0, .string ⟨#[]⟩, .string ⟨#[]⟩] 30)) 30 #[.int .i64 (a.toNat : Int), .int .i64 (b.toNat : Int), .string ⟨#[]⟩, .string ⟨#[]⟩]
      rw [show (w.alloc (.cells #[.int .i64 0, .int .i64 0, .string ⟨#[]⟩, .string ⟨#[]⟩] 30)).heap.size = w.heap.size + 1 by simp] at this
      exact this.drew
    have BW : Below w.heap.size w ((w.alloc (.cells #[.int .i64 0, .int .i64 0, .string ⟨#[]⟩, .string ⟨#[]⟩] 30)).alloc (.cells #[.int .i64 (a.toNat : Int), .int .i64 (b.toNat : Int), .string ⟨#[]⟩, .string ⟨#[]⟩] 30)).drew := (E1.alloc E1.size _).drew
    have x0 := X1.cell 0 _ rfl
    by_cases hk : keyedE (a.toNat : Int)
    · rw [if_pos hk] at hT
      have bd := takeTextL_bd r 32
      have hTT := fun W => takeText_any r 32 W (by omega)
      have hTU := fun W => takeText_any (Lm.takeTextL r 32).2.1 32 W (by omega)
      obtain ⟨⟨key, x, e1⟩, hx⟩ : ∃ y, Lm.takeTextL r 32 = y := ⟨_, rfl⟩
      rw [hx] at hTT hTU hT
      simp only at hTT hTU hT
      obtain ⟨⟨val, y, e2⟩, hy⟩ : ∃ z, Lm.takeTextL x 32 = z := ⟨_, rfl⟩
      rw [hy] at hTU hT
      simp only at hTU hT
      have HT1 : Hid (∀ W, Calls Try.prog 81 #[.string ⟨r.toArray⟩, .int .i64 32] W fun e w' => e = .returned (.tuple #[.string ⟨key.toArray⟩, .string ⟨x.toArray⟩, .int .i64 (e1 : Int)]) ∧ Below W.heap.size W w') := hTT
      have HT2 : Hid (∀ W, Calls Try.prog 81 #[.string ⟨x.toArray⟩, .int .i64 32] W fun e w' => e = .returned (.tuple #[.string ⟨val.toArray⟩, .string ⟨y.toArray⟩, .int .i64 (e2 : Int)]) ∧ Below W.heap.size W w') := hTU
      have hT3 := fun W => ptexts_key (a.toNat : Int) hk W
      obtain ⟨m, hm0⟩ : ∃ m : Int, (if (a.toNat : Int) = 2 then 0 else 1 : Int) = m := ⟨_, rfl⟩
      rw [hm0] at hT3
      have T : Hid (∀ W, Calls Try.prog 55 #[.int .i64 (a.toNat : Int)] W fun e w' => e = .returned (.tuple #[.bool true, .int .i64 m]) ∧ Below W.heap.size W w') := hT3
      clear hTT hTU hT3 hm0 hx hy bd hk l2
      by_cases h1 : e1 = 0
      · subst h1
        rw [if_neg (by simp)] at hT
        by_cases h2 : e2 = 0
        · subst h2
          cases y with
          | nil =>
            rw [if_neg (by simp)] at hT
            have M : Hid (∀ W, Calls Try.prog 52 #[.agg #[.int .i64 (a.toNat : Int), .int .i64 (b.toNat : Int), .string ⟨key.toArray⟩, .string ⟨val.toArray⟩]] W fun e w' => e = .returned (.bool (decide (mayE ((a.toNat : Int), (b.toNat : Int), key, val)))) ∧ Below W.heap.size W w') := fun W => pmay_any _ _ key val W
            by_cases hm : mayE ((a.toNat : Int), (b.toNat : Int), key, val)
            · rw [if_pos hm] at hT
              rw [decide_eq_true hm] at M
              rw [takeER_ok hT]
              clear hT hm
              go_enter Try.func68, Try.ntmps68
              go_wp2_with fail
              refine wp_region_any (by kernel_rfl) ?_
              change wpAny _ _ _ _ _ _ _ (World.drew _)
              refine wpAny_take (i := 0) (v := (.string ⟨S.toArray⟩)) rfl (by kernel_rfl) (by kernel_rfl) (by kernel_rfl) (fun _ _ _ h => h) (Or.inl ⟨by kernel_rfl, fun w => by go_simp⟩) ?_
              refine wpAny_take (i := 1) (v := (.int .u8 (a.toNat : Int))) rfl (by kernel_rfl) (by kernel_rfl) (by kernel_rfl) (fun _ _ _ h => h) (Or.inl ⟨by kernel_rfl, fun w => by go_simp⟩) ?_
              refine wpAny_take (i := 2) (v := (.int .i64 (a.toNat : Int))) rfl (by kernel_rfl) (by kernel_rfl) (by kernel_rfl) (fun _ _ _ h => h) (Or.inl ⟨by kernel_rfl, fun w => by go_simp⟩) ?_
              refine wpAny_take (i := 3) (v := (.string ⟨S.toArray⟩)) rfl (by kernel_rfl) (by kernel_rfl) (by kernel_rfl) (fun _ _ _ h => h) (Or.inl ⟨by kernel_rfl, fun w => by go_simp⟩) ?_
              refine wpAny_take (i := 4) (v := (.int .u8 (b.toNat : Int))) rfl (by kernel_rfl) (by kernel_rfl) (by kernel_rfl) (fun _ _ _ h => h) (Or.inl ⟨by kernel_rfl, fun w => by go_simp⟩) ?_
              refine wpAny_take (i := 5) (v := (.int .i64 (b.toNat : Int))) rfl (by kernel_rfl) (by kernel_rfl) (by kernel_rfl) (fun _ _ _ h => h) (Or.inl ⟨by kernel_rfl, fun w => by go_simp⟩) ?_
              refine wpAny_take (i := 6) (v := (.agg #[.int .i64 (a.toNat : Int), .int .i64 (b.toNat : Int), .string ⟨#[]⟩, .string ⟨#[]⟩])) rfl (by kernel_rfl) (by kernel_rfl) (by kernel_rfl) (fun _ _ _ h => h) (Or.inl ⟨by kernel_rfl, fun w => by go_simp⟩) ?_
              refine wpAny_take (i := 7) (v := (.string ⟨S.toArray⟩)) rfl (by kernel_rfl) (by kernel_rfl) (by kernel_rfl) (fun _ _ _ h => h) (Or.inl ⟨by kernel_rfl, fun w => by go_simp⟩) ?_
              refine wpAny_take (i := 8) (v := (.string ⟨r.toArray⟩)) rfl (by kernel_rfl) (by kernel_rfl) (by kernel_rfl) (fun _ _ _ h => h) (Or.inl ⟨by kernel_rfl, fun w => by go_simp⟩) ?_
              refine any_seqI [9, 10, 11] [_, _, _] _ _ _ rfl (by kernel_rfl) ?_
              go_wp2_with fail
              refine (T.out _).mono ?_
              rintro e w2 ⟨rfl, c2⟩
              have R2 := R1.below c2
              have X2 := X1.below c2
              have B2 := bel_trans BW c2
              go_wp2_with fail
              refine (HT1.out _).mono ?_
              rintro e w3 ⟨rfl, c3⟩
              have R3 := R2.below c3
              have X3 := X2.below c3
              have B3 := bel_trans B2 c3
              have xc2 := X3.cell 2 _ rfl
              have xf2 := X3.frozen 2
              have R4 := R3.other (w.heap.size + 1) 2 (.string ⟨key.toArray⟩) (by omega)
              have X4 := X3.set 2 (.string ⟨key.toArray⟩)
              have B4 := B3.setCell (p := ⟨w.heap.size + 1, 2, none⟩) (by show w.heap.size ≤ w.heap.size + 1; omega) (.string ⟨key.toArray⟩)
              go_wp2_with fail
              refine (HT2.out _).mono ?_
              rintro e w5 ⟨rfl, c5⟩
              have R5 := R4.below c5
              have X5 := X4.below c5
              have B5 := bel_trans B4 c5
              have xc3 := X5.cell 3 _ rfl
              have xf3 := X5.frozen 3
              have R6 := R5.other (w.heap.size + 1) 3 (.string ⟨val.toArray⟩) (by omega)
              have X6 := X5.set 3 (.string ⟨val.toArray⟩)
              have B6 := B5.setCell (p := ⟨w.heap.size + 1, 3, none⟩) (by show w.heap.size ≤ w.heap.size + 1; omega) (.string ⟨val.toArray⟩)
              clear xc2 xf2 x0
              have xd0 := X6.cell 0 _ rfl
              have xd1 := X6.cell 1 _ rfl
              have xd2 := X6.cell 2 _ rfl
              have xd3 := X6.cell 3 _ rfl
              go_wp2_with fail
              refine (M.out _).mono ?_
              rintro e w7 ⟨rfl, c7⟩
              have R7 := R6.below c7
              have X7 := X6.below c7
              have B7 := bel_trans B6 c7
              clear xd0 xd1 xd2 xd3 xc3 xf3
              have xde0 := X7.cell 0 _ rfl
              have xde1 := X7.cell 1 _ rfl
              have xde2 := X7.cell 2 _ rfl
              have xde3 := X7.cell 3 _ rfl
              have rc0 := R7.cell 0 _ rfl
              have rf0 := R7.frozen 0
              have rc1 := R7.cell 1 _ rfl
              have rf1 := R7.frozen 1
              have rc2 := R7.cell 2 _ rfl
              have rf2 := R7.frozen 2
              have rc3 := R7.cell 3 _ rfl
              have rf3 := R7.frozen 3
              go_wp2_with fail
              generalize hW : World.setCell _ _ _ = W
              have RW : SBox W w.heap.size 30 #[.int .i64 (a.toNat : Int), .int .i64 (b.toNat : Int), .string ⟨key.toArray⟩, .string ⟨val.toArray⟩] := by rw [← hW]; exact R7.put4 _ _ _ _
              have BZ : Below w.heap.size w W := by rw [← hW]; exact bel_put4 B7 (Nat.le_refl _) _ _ _ _
              exact bodyPost_ret (v := .tuple #[evA ((a.toNat : Int), (b.toNat : Int), key, val), .int .i64 0]) (results_row_tmp Try.results68 _ _ w.heap.size 30 _ (0, 0) _ rfl RW Try.underlying30 rfl size_ev) rfl ⟨rfl, BZ⟩
            · rw [if_neg hm] at hT
              rw [decide_eq_false hm] at M
              rw [takeER_bad hT]
              clear hT hm
              go_enter Try.func68, Try.ntmps68
              go_wp2_with fail
              refine wp_region_any (by kernel_rfl) ?_
              change wpAny _ _ _ _ _ _ _ (World.drew _)
              refine wpAny_take (i := 0) (v := (.string ⟨S.toArray⟩)) rfl (by kernel_rfl) (by kernel_rfl) (by kernel_rfl) (fun _ _ _ h => h) (Or.inl ⟨by kernel_rfl, fun w => by go_simp⟩) ?_
              refine wpAny_take (i := 1) (v := (.int .u8 (a.toNat : Int))) rfl (by kernel_rfl) (by kernel_rfl) (by kernel_rfl) (fun _ _ _ h => h) (Or.inl ⟨by kernel_rfl, fun w => by go_simp⟩) ?_
              refine wpAny_take (i := 2) (v := (.int .i64 (a.toNat : Int))) rfl (by kernel_rfl) (by kernel_rfl) (by kernel_rfl) (fun _ _ _ h => h) (Or.inl ⟨by kernel_rfl, fun w => by go_simp⟩) ?_
              refine wpAny_take (i := 3) (v := (.string ⟨S.toArray⟩)) rfl (by kernel_rfl) (by kernel_rfl) (by kernel_rfl) (fun _ _ _ h => h) (Or.inl ⟨by kernel_rfl, fun w => by go_simp⟩) ?_
              refine wpAny_take (i := 4) (v := (.int .u8 (b.toNat : Int))) rfl (by kernel_rfl) (by kernel_rfl) (by kernel_rfl) (fun _ _ _ h => h) (Or.inl ⟨by kernel_rfl, fun w => by go_simp⟩) ?_
              refine wpAny_take (i := 5) (v := (.int .i64 (b.toNat : Int))) rfl (by kernel_rfl) (by kernel_rfl) (by kernel_rfl) (fun _ _ _ h => h) (Or.inl ⟨by kernel_rfl, fun w => by go_simp⟩) ?_
              refine wpAny_take (i := 6) (v := (.agg #[.int .i64 (a.toNat : Int), .int .i64 (b.toNat : Int), .string ⟨#[]⟩, .string ⟨#[]⟩])) rfl (by kernel_rfl) (by kernel_rfl) (by kernel_rfl) (fun _ _ _ h => h) (Or.inl ⟨by kernel_rfl, fun w => by go_simp⟩) ?_
              refine wpAny_take (i := 7) (v := (.string ⟨S.toArray⟩)) rfl (by kernel_rfl) (by kernel_rfl) (by kernel_rfl) (fun _ _ _ h => h) (Or.inl ⟨by kernel_rfl, fun w => by go_simp⟩) ?_
              refine wpAny_take (i := 8) (v := (.string ⟨r.toArray⟩)) rfl (by kernel_rfl) (by kernel_rfl) (by kernel_rfl) (fun _ _ _ h => h) (Or.inl ⟨by kernel_rfl, fun w => by go_simp⟩) ?_
              refine any_seqI [9, 10, 11] [_, _, _] _ _ _ rfl (by kernel_rfl) ?_
              go_wp2_with fail
              refine (T.out _).mono ?_
              rintro e w2 ⟨rfl, c2⟩
              have R2 := R1.below c2
              have X2 := X1.below c2
              have B2 := bel_trans BW c2
              go_wp2_with fail
              refine (HT1.out _).mono ?_
              rintro e w3 ⟨rfl, c3⟩
              have R3 := R2.below c3
              have X3 := X2.below c3
              have B3 := bel_trans B2 c3
              have xc2 := X3.cell 2 _ rfl
              have xf2 := X3.frozen 2
              have R4 := R3.other (w.heap.size + 1) 2 (.string ⟨key.toArray⟩) (by omega)
              have X4 := X3.set 2 (.string ⟨key.toArray⟩)
              have B4 := B3.setCell (p := ⟨w.heap.size + 1, 2, none⟩) (by show w.heap.size ≤ w.heap.size + 1; omega) (.string ⟨key.toArray⟩)
              go_wp2_with fail
              refine (HT2.out _).mono ?_
              rintro e w5 ⟨rfl, c5⟩
              have R5 := R4.below c5
              have X5 := X4.below c5
              have B5 := bel_trans B4 c5
              have xc3 := X5.cell 3 _ rfl
              have xf3 := X5.frozen 3
              have R6 := R5.other (w.heap.size + 1) 3 (.string ⟨val.toArray⟩) (by omega)
              have X6 := X5.set 3 (.string ⟨val.toArray⟩)
              have B6 := B5.setCell (p := ⟨w.heap.size + 1, 3, none⟩) (by show w.heap.size ≤ w.heap.size + 1; omega) (.string ⟨val.toArray⟩)
              clear xc2 xf2 x0
              have xd0 := X6.cell 0 _ rfl
              have xd1 := X6.cell 1 _ rfl
              have xd2 := X6.cell 2 _ rfl
              have xd3 := X6.cell 3 _ rfl
              go_wp2_with fail
              refine (M.out _).mono ?_
              rintro e w7 ⟨rfl, c7⟩
              have R7 := R6.below c7
              have X7 := X6.below c7
              have B7 := bel_trans B6 c7
              clear xd0 xd1 xd2 xd3 xc3 xf3
              have rc0 := R7.cell 0 _ rfl
              have rf0 := R7.frozen 0
              have rc1 := R7.cell 1 _ rfl
              have rf1 := R7.frozen 1
              have rc2 := R7.cell 2 _ rfl
              have rf2 := R7.frozen 2
              have rc3 := R7.cell 3 _ rfl
              have rf3 := R7.frozen 3
              go_wp2_with fail
              generalize hW : World.setCell _ _ _ = W
              have RW : SBox W w.heap.size 30 #[.int .i64 0, .int .i64 0, .string ⟨#[]⟩, .string ⟨#[]⟩] := by rw [← hW]; exact R7.put4 _ _ _ _
              have BZ : Below w.heap.size w W := by rw [← hW]; exact bel_put4 B7 (Nat.le_refl _) _ _ _ _
              exact bodyPost_ret (v := .tuple #[evA (0, 0, [], []), .int .i64 3]) (results_row_tmp Try.results68 _ _ w.heap.size 30 _ (0, 0) _ rfl RW Try.underlying30 rfl size_ev) rfl ⟨rfl, BZ⟩
          | cons y0 ys =>
            rw [if_pos (by right; simp)] at hT
            rw [takeER_bad hT]
            obtain ⟨y, hy⟩ : ∃ y, y0 :: ys = y := ⟨_, rfl⟩
            have q := ne_empty' y (by rw [← hy]; simp)
            rw [hy] at HT2
            clear hT hy
            go_enter Try.func68, Try.ntmps68
            go_wp2_with fail
            refine wp_region_any (by kernel_rfl) ?_
            change wpAny _ _ _ _ _ _ _ (World.drew _)
            refine wpAny_take (i := 0) (v := (.string ⟨S.toArray⟩)) rfl (by kernel_rfl) (by kernel_rfl) (by kernel_rfl) (fun _ _ _ h => h) (Or.inl ⟨by kernel_rfl, fun w => by go_simp⟩) ?_
            refine wpAny_take (i := 1) (v := (.int .u8 (a.toNat : Int))) rfl (by kernel_rfl) (by kernel_rfl) (by kernel_rfl) (fun _ _ _ h => h) (Or.inl ⟨by kernel_rfl, fun w => by go_simp⟩) ?_
            refine wpAny_take (i := 2) (v := (.int .i64 (a.toNat : Int))) rfl (by kernel_rfl) (by kernel_rfl) (by kernel_rfl) (fun _ _ _ h => h) (Or.inl ⟨by kernel_rfl, fun w => by go_simp⟩) ?_
            refine wpAny_take (i := 3) (v := (.string ⟨S.toArray⟩)) rfl (by kernel_rfl) (by kernel_rfl) (by kernel_rfl) (fun _ _ _ h => h) (Or.inl ⟨by kernel_rfl, fun w => by go_simp⟩) ?_
            refine wpAny_take (i := 4) (v := (.int .u8 (b.toNat : Int))) rfl (by kernel_rfl) (by kernel_rfl) (by kernel_rfl) (fun _ _ _ h => h) (Or.inl ⟨by kernel_rfl, fun w => by go_simp⟩) ?_
            refine wpAny_take (i := 5) (v := (.int .i64 (b.toNat : Int))) rfl (by kernel_rfl) (by kernel_rfl) (by kernel_rfl) (fun _ _ _ h => h) (Or.inl ⟨by kernel_rfl, fun w => by go_simp⟩) ?_
            refine wpAny_take (i := 6) (v := (.agg #[.int .i64 (a.toNat : Int), .int .i64 (b.toNat : Int), .string ⟨#[]⟩, .string ⟨#[]⟩])) rfl (by kernel_rfl) (by kernel_rfl) (by kernel_rfl) (fun _ _ _ h => h) (Or.inl ⟨by kernel_rfl, fun w => by go_simp⟩) ?_
            refine wpAny_take (i := 7) (v := (.string ⟨S.toArray⟩)) rfl (by kernel_rfl) (by kernel_rfl) (by kernel_rfl) (fun _ _ _ h => h) (Or.inl ⟨by kernel_rfl, fun w => by go_simp⟩) ?_
            refine wpAny_take (i := 8) (v := (.string ⟨r.toArray⟩)) rfl (by kernel_rfl) (by kernel_rfl) (by kernel_rfl) (fun _ _ _ h => h) (Or.inl ⟨by kernel_rfl, fun w => by go_simp⟩) ?_
            refine any_seqI [9, 10, 11] [_, _, _] _ _ _ rfl (by kernel_rfl) ?_
            go_wp2_with fail
            refine (T.out _).mono ?_
            rintro e w2 ⟨rfl, c2⟩
            have R2 := R1.below c2
            have X2 := X1.below c2
            have B2 := bel_trans BW c2
            go_wp2_with fail
            refine (HT1.out _).mono ?_
            rintro e w3 ⟨rfl, c3⟩
            have R3 := R2.below c3
            have X3 := X2.below c3
            have B3 := bel_trans B2 c3
            have xc2 := X3.cell 2 _ rfl
            have xf2 := X3.frozen 2
            have R4 := R3.other (w.heap.size + 1) 2 (.string ⟨key.toArray⟩) (by omega)
            have X4 := X3.set 2 (.string ⟨key.toArray⟩)
            have B4 := B3.setCell (p := ⟨w.heap.size + 1, 2, none⟩) (by show w.heap.size ≤ w.heap.size + 1; omega) (.string ⟨key.toArray⟩)
            go_wp2_with fail
            refine (HT2.out _).mono ?_
            rintro e w5 ⟨rfl, c5⟩
            have R5 := R4.below c5
            have X5 := X4.below c5
            have B5 := bel_trans B4 c5
            have xc3 := X5.cell 3 _ rfl
            have xf3 := X5.frozen 3
            have R6 := R5.other (w.heap.size + 1) 3 (.string ⟨val.toArray⟩) (by omega)
            have X6 := X5.set 3 (.string ⟨val.toArray⟩)
            have B6 := B5.setCell (p := ⟨w.heap.size + 1, 3, none⟩) (by show w.heap.size ≤ w.heap.size + 1; omega) (.string ⟨val.toArray⟩)
            clear xc2 xf2 x0
            have rca0 := R5.cell 0 _ rfl
            have rfa0 := R5.frozen 0
            have rca1 := R5.cell 1 _ rfl
            have rfa1 := R5.frozen 1
            have rca2 := R5.cell 2 _ rfl
            have rfa2 := R5.frozen 2
            have rca3 := R5.cell 3 _ rfl
            have rfa3 := R5.frozen 3
            have rc0 := R6.cell 0 _ rfl
            have rf0 := R6.frozen 0
            have rc1 := R6.cell 1 _ rfl
            have rf1 := R6.frozen 1
            have rc2 := R6.cell 2 _ rfl
            have rf2 := R6.frozen 2
            have rc3 := R6.cell 3 _ rfl
            have rf3 := R6.frozen 3
            go_wp2_with fail
            generalize hW : World.setCell _ _ _ = W
            have RW : SBox W w.heap.size 30 #[.int .i64 0, .int .i64 0, .string ⟨#[]⟩, .string ⟨#[]⟩] := by rw [← hW]; exact R6.put4 _ _ _ _
            have BZ : Below w.heap.size w W := by rw [← hW]; exact bel_put4 B6 (Nat.le_refl _) _ _ _ _
            exact bodyPost_ret (v := .tuple #[evA (0, 0, [], []), .int .i64 3]) (results_row_tmp Try.results68 _ _ w.heap.size 30 _ (0, 0) _ rfl RW Try.underlying30 rfl size_ev) rfl ⟨rfl, BZ⟩
        · rw [if_pos (Or.inl h2)] at hT
          rw [takeER_bad hT]
          have j2 : ((e2 : Int) != 0) = true := by rw [bne_iff_ne]; omega
          clear hT h2
          go_enter Try.func68, Try.ntmps68
          go_wp2_with fail
          refine wp_region_any (by kernel_rfl) ?_
          change wpAny _ _ _ _ _ _ _ (World.drew _)
          refine wpAny_take (i := 0) (v := (.string ⟨S.toArray⟩)) rfl (by kernel_rfl) (by kernel_rfl) (by kernel_rfl) (fun _ _ _ h => h) (Or.inl ⟨by kernel_rfl, fun w => by go_simp⟩) ?_
          refine wpAny_take (i := 1) (v := (.int .u8 (a.toNat : Int))) rfl (by kernel_rfl) (by kernel_rfl) (by kernel_rfl) (fun _ _ _ h => h) (Or.inl ⟨by kernel_rfl, fun w => by go_simp⟩) ?_
          refine wpAny_take (i := 2) (v := (.int .i64 (a.toNat : Int))) rfl (by kernel_rfl) (by kernel_rfl) (by kernel_rfl) (fun _ _ _ h => h) (Or.inl ⟨by kernel_rfl, fun w => by go_simp⟩) ?_
          refine wpAny_take (i := 3) (v := (.string ⟨S.toArray⟩)) rfl (by kernel_rfl) (by kernel_rfl) (by kernel_rfl) (fun _ _ _ h => h) (Or.inl ⟨by kernel_rfl, fun w => by go_simp⟩) ?_
          refine wpAny_take (i := 4) (v := (.int .u8 (b.toNat : Int))) rfl (by kernel_rfl) (by kernel_rfl) (by kernel_rfl) (fun _ _ _ h => h) (Or.inl ⟨by kernel_rfl, fun w => by go_simp⟩) ?_
          refine wpAny_take (i := 5) (v := (.int .i64 (b.toNat : Int))) rfl (by kernel_rfl) (by kernel_rfl) (by kernel_rfl) (fun _ _ _ h => h) (Or.inl ⟨by kernel_rfl, fun w => by go_simp⟩) ?_
          refine wpAny_take (i := 6) (v := (.agg #[.int .i64 (a.toNat : Int), .int .i64 (b.toNat : Int), .string ⟨#[]⟩, .string ⟨#[]⟩])) rfl (by kernel_rfl) (by kernel_rfl) (by kernel_rfl) (fun _ _ _ h => h) (Or.inl ⟨by kernel_rfl, fun w => by go_simp⟩) ?_
          refine wpAny_take (i := 7) (v := (.string ⟨S.toArray⟩)) rfl (by kernel_rfl) (by kernel_rfl) (by kernel_rfl) (fun _ _ _ h => h) (Or.inl ⟨by kernel_rfl, fun w => by go_simp⟩) ?_
          refine wpAny_take (i := 8) (v := (.string ⟨r.toArray⟩)) rfl (by kernel_rfl) (by kernel_rfl) (by kernel_rfl) (fun _ _ _ h => h) (Or.inl ⟨by kernel_rfl, fun w => by go_simp⟩) ?_
          refine any_seqI [9, 10, 11] [_, _, _] _ _ _ rfl (by kernel_rfl) ?_
          go_wp2_with fail
          refine (T.out _).mono ?_
          rintro e w2 ⟨rfl, c2⟩
          have R2 := R1.below c2
          have X2 := X1.below c2
          have B2 := bel_trans BW c2
          go_wp2_with fail
          refine (HT1.out _).mono ?_
          rintro e w3 ⟨rfl, c3⟩
          have R3 := R2.below c3
          have X3 := X2.below c3
          have B3 := bel_trans B2 c3
          have xc2 := X3.cell 2 _ rfl
          have xf2 := X3.frozen 2
          have R4 := R3.other (w.heap.size + 1) 2 (.string ⟨key.toArray⟩) (by omega)
          have X4 := X3.set 2 (.string ⟨key.toArray⟩)
          have B4 := B3.setCell (p := ⟨w.heap.size + 1, 2, none⟩) (by show w.heap.size ≤ w.heap.size + 1; omega) (.string ⟨key.toArray⟩)
          go_wp2_with fail
          refine (HT2.out _).mono ?_
          rintro e w5 ⟨rfl, c5⟩
          have R5 := R4.below c5
          have X5 := X4.below c5
          have B5 := bel_trans B4 c5
          have xc3 := X5.cell 3 _ rfl
          have xf3 := X5.frozen 3
          have R6 := R5.other (w.heap.size + 1) 3 (.string ⟨val.toArray⟩) (by omega)
          have X6 := X5.set 3 (.string ⟨val.toArray⟩)
          have B6 := B5.setCell (p := ⟨w.heap.size + 1, 3, none⟩) (by show w.heap.size ≤ w.heap.size + 1; omega) (.string ⟨val.toArray⟩)
          clear xc2 xf2 x0
          have rca0 := R5.cell 0 _ rfl
          have rfa0 := R5.frozen 0
          have rca1 := R5.cell 1 _ rfl
          have rfa1 := R5.frozen 1
          have rca2 := R5.cell 2 _ rfl
          have rfa2 := R5.frozen 2
          have rca3 := R5.cell 3 _ rfl
          have rfa3 := R5.frozen 3
          have rc0 := R6.cell 0 _ rfl
          have rf0 := R6.frozen 0
          have rc1 := R6.cell 1 _ rfl
          have rf1 := R6.frozen 1
          have rc2 := R6.cell 2 _ rfl
          have rf2 := R6.frozen 2
          have rc3 := R6.cell 3 _ rfl
          have rf3 := R6.frozen 3
          go_wp2_with fail
          generalize hW : World.setCell _ _ _ = W
          have RW : SBox W w.heap.size 30 #[.int .i64 0, .int .i64 0, .string ⟨#[]⟩, .string ⟨#[]⟩] := by rw [← hW]; exact R6.put4 _ _ _ _
          have BZ : Below w.heap.size w W := by rw [← hW]; exact bel_put4 B6 (Nat.le_refl _) _ _ _ _
          exact bodyPost_ret (v := .tuple #[evA (0, 0, [], []), .int .i64 3]) (results_row_tmp Try.results68 _ _ w.heap.size 30 _ (0, 0) _ rfl RW Try.underlying30 rfl size_ev) rfl ⟨rfl, BZ⟩
      · rw [if_pos h1] at hT
        rw [takeER_bad hT]
        have j1 : ((e1 : Int) != 0) = true := by rw [bne_iff_ne]; omega
        clear hT h1
        go_enter Try.func68, Try.ntmps68
        go_wp2_with fail
        refine wp_region_any (by kernel_rfl) ?_
        change wpAny _ _ _ _ _ _ _ (World.drew _)
        refine wpAny_take (i := 0) (v := (.string ⟨S.toArray⟩)) rfl (by kernel_rfl) (by kernel_rfl) (by kernel_rfl) (fun _ _ _ h => h) (Or.inl ⟨by kernel_rfl, fun w => by go_simp⟩) ?_
        refine wpAny_take (i := 1) (v := (.int .u8 (a.toNat : Int))) rfl (by kernel_rfl) (by kernel_rfl) (by kernel_rfl) (fun _ _ _ h => h) (Or.inl ⟨by kernel_rfl, fun w => by go_simp⟩) ?_
        refine wpAny_take (i := 2) (v := (.int .i64 (a.toNat : Int))) rfl (by kernel_rfl) (by kernel_rfl) (by kernel_rfl) (fun _ _ _ h => h) (Or.inl ⟨by kernel_rfl, fun w => by go_simp⟩) ?_
        refine wpAny_take (i := 3) (v := (.string ⟨S.toArray⟩)) rfl (by kernel_rfl) (by kernel_rfl) (by kernel_rfl) (fun _ _ _ h => h) (Or.inl ⟨by kernel_rfl, fun w => by go_simp⟩) ?_
        refine wpAny_take (i := 4) (v := (.int .u8 (b.toNat : Int))) rfl (by kernel_rfl) (by kernel_rfl) (by kernel_rfl) (fun _ _ _ h => h) (Or.inl ⟨by kernel_rfl, fun w => by go_simp⟩) ?_
        refine wpAny_take (i := 5) (v := (.int .i64 (b.toNat : Int))) rfl (by kernel_rfl) (by kernel_rfl) (by kernel_rfl) (fun _ _ _ h => h) (Or.inl ⟨by kernel_rfl, fun w => by go_simp⟩) ?_
        refine wpAny_take (i := 6) (v := (.agg #[.int .i64 (a.toNat : Int), .int .i64 (b.toNat : Int), .string ⟨#[]⟩, .string ⟨#[]⟩])) rfl (by kernel_rfl) (by kernel_rfl) (by kernel_rfl) (fun _ _ _ h => h) (Or.inl ⟨by kernel_rfl, fun w => by go_simp⟩) ?_
        refine wpAny_take (i := 7) (v := (.string ⟨S.toArray⟩)) rfl (by kernel_rfl) (by kernel_rfl) (by kernel_rfl) (fun _ _ _ h => h) (Or.inl ⟨by kernel_rfl, fun w => by go_simp⟩) ?_
        refine wpAny_take (i := 8) (v := (.string ⟨r.toArray⟩)) rfl (by kernel_rfl) (by kernel_rfl) (by kernel_rfl) (fun _ _ _ h => h) (Or.inl ⟨by kernel_rfl, fun w => by go_simp⟩) ?_
        refine any_seqI [9, 10, 11] [_, _, _] _ _ _ rfl (by kernel_rfl) ?_
        go_wp2_with fail
        refine (T.out _).mono ?_
        rintro e w2 ⟨rfl, c2⟩
        have R2 := R1.below c2
        have X2 := X1.below c2
        have B2 := bel_trans BW c2
        go_wp2_with fail
        refine (HT1.out _).mono ?_
        rintro e w3 ⟨rfl, c3⟩
        have R3 := R2.below c3
        have X3 := X2.below c3
        have B3 := bel_trans B2 c3
        have xc2 := X3.cell 2 _ rfl
        have xf2 := X3.frozen 2
        have R4 := R3.other (w.heap.size + 1) 2 (.string ⟨key.toArray⟩) (by omega)
        have X4 := X3.set 2 (.string ⟨key.toArray⟩)
        have B4 := B3.setCell (p := ⟨w.heap.size + 1, 2, none⟩) (by show w.heap.size ≤ w.heap.size + 1; omega) (.string ⟨key.toArray⟩)
        go_wp2_with fail
        refine (HT2.out _).mono ?_
        rintro e w5 ⟨rfl, c5⟩
        have R5 := R4.below c5
        have X5 := X4.below c5
        have B5 := bel_trans B4 c5
        have xc3 := X5.cell 3 _ rfl
        have xf3 := X5.frozen 3
        have R6 := R5.other (w.heap.size + 1) 3 (.string ⟨val.toArray⟩) (by omega)
        have X6 := X5.set 3 (.string ⟨val.toArray⟩)
        have B6 := B5.setCell (p := ⟨w.heap.size + 1, 3, none⟩) (by show w.heap.size ≤ w.heap.size + 1; omega) (.string ⟨val.toArray⟩)
        clear xc2 xf2 x0
        have rca0 := R5.cell 0 _ rfl
        have rfa0 := R5.frozen 0
        have rca1 := R5.cell 1 _ rfl
        have rfa1 := R5.frozen 1
        have rca2 := R5.cell 2 _ rfl
        have rfa2 := R5.frozen 2
        have rca3 := R5.cell 3 _ rfl
        have rfa3 := R5.frozen 3
        have rc0 := R6.cell 0 _ rfl
        have rf0 := R6.frozen 0
        have rc1 := R6.cell 1 _ rfl
        have rf1 := R6.frozen 1
        have rc2 := R6.cell 2 _ rfl
        have rf2 := R6.frozen 2
        have rc3 := R6.cell 3 _ rfl
        have rf3 := R6.frozen 3
        go_wp2_with fail
        generalize hW : World.setCell _ _ _ = W
        have RW : SBox W w.heap.size 30 #[.int .i64 0, .int .i64 0, .string ⟨#[]⟩, .string ⟨#[]⟩] := by rw [← hW]; exact R6.put4 _ _ _ _
        have BZ : Below w.heap.size w W := by rw [← hW]; exact bel_put4 B6 (Nat.le_refl _) _ _ _ _
        exact bodyPost_ret (v := .tuple #[evA (0, 0, [], []), .int .i64 3]) (results_row_tmp Try.results68 _ _ w.heap.size 30 _ (0, 0) _ rfl RW Try.underlying30 rfl size_ev) rfl ⟨rfl, BZ⟩
    · rw [if_neg hk] at hT
      have hT3 := fun W => ptextsN (a.toNat : Int) hk W
      have T : Hid (∀ W, Calls Try.prog 55 #[.int .i64 (a.toNat : Int)] W fun e w' => e = .returned (.tuple #[.bool false, .int .i64 0]) ∧ Below W.heap.size W w') := hT3
      clear hT3 hk l2
      have M : Hid (∀ W, Calls Try.prog 52 #[.agg #[.int .i64 (a.toNat : Int), .int .i64 (b.toNat : Int), .string ⟨#[]⟩, .string ⟨#[]⟩]] W fun e w' => e = .returned (.bool (decide (mayE ((a.toNat : Int), (b.toNat : Int), [], [])))) ∧ Below W.heap.size W w') := fun W => pmay_any _ _ [] [] W
      by_cases hr : r = []
      · subst hr
        by_cases hm : mayE ((a.toNat : Int), (b.toNat : Int), [], [])
        · rw [if_neg (by intro h; rcases h with h | h; simp at h; exact h hm)] at hT
          rw [decide_eq_true hm] at M
          rw [takeER_ok hT]
          clear hT hm
          go_enter Try.func68, Try.ntmps68
          go_wp2_with fail
          refine wp_region_any (by kernel_rfl) ?_
          change wpAny _ _ _ _ _ _ _ (World.drew _)
          refine wpAny_take (i := 0) (v := (.string ⟨S.toArray⟩)) rfl (by kernel_rfl) (by kernel_rfl) (by kernel_rfl) (fun _ _ _ h => h) (Or.inl ⟨by kernel_rfl, fun w => by go_simp⟩) ?_
          refine wpAny_take (i := 1) (v := (.int .u8 (a.toNat : Int))) rfl (by kernel_rfl) (by kernel_rfl) (by kernel_rfl) (fun _ _ _ h => h) (Or.inl ⟨by kernel_rfl, fun w => by go_simp⟩) ?_
          refine wpAny_take (i := 2) (v := (.int .i64 (a.toNat : Int))) rfl (by kernel_rfl) (by kernel_rfl) (by kernel_rfl) (fun _ _ _ h => h) (Or.inl ⟨by kernel_rfl, fun w => by go_simp⟩) ?_
          refine wpAny_take (i := 3) (v := (.string ⟨S.toArray⟩)) rfl (by kernel_rfl) (by kernel_rfl) (by kernel_rfl) (fun _ _ _ h => h) (Or.inl ⟨by kernel_rfl, fun w => by go_simp⟩) ?_
          refine wpAny_take (i := 4) (v := (.int .u8 (b.toNat : Int))) rfl (by kernel_rfl) (by kernel_rfl) (by kernel_rfl) (fun _ _ _ h => h) (Or.inl ⟨by kernel_rfl, fun w => by go_simp⟩) ?_
          refine wpAny_take (i := 5) (v := (.int .i64 (b.toNat : Int))) rfl (by kernel_rfl) (by kernel_rfl) (by kernel_rfl) (fun _ _ _ h => h) (Or.inl ⟨by kernel_rfl, fun w => by go_simp⟩) ?_
          refine wpAny_take (i := 6) (v := (.agg #[.int .i64 (a.toNat : Int), .int .i64 (b.toNat : Int), .string ⟨#[]⟩, .string ⟨#[]⟩])) rfl (by kernel_rfl) (by kernel_rfl) (by kernel_rfl) (fun _ _ _ h => h) (Or.inl ⟨by kernel_rfl, fun w => by go_simp⟩) ?_
          refine wpAny_take (i := 7) (v := (.string ⟨S.toArray⟩)) rfl (by kernel_rfl) (by kernel_rfl) (by kernel_rfl) (fun _ _ _ h => h) (Or.inl ⟨by kernel_rfl, fun w => by go_simp⟩) ?_
          refine wpAny_take (i := 8) (v := (.string ⟨#[]⟩)) rfl (by kernel_rfl) (by kernel_rfl) (by kernel_rfl) (fun _ _ _ h => h) (Or.inl ⟨by kernel_rfl, fun w => by go_simp⟩) ?_
          refine any_seqI [9, 10, 11] [_, _, _] _ _ _ rfl (by kernel_rfl) ?_
          go_wp2_with fail
          refine (T.out _).mono ?_
          rintro e w2 ⟨rfl, c2⟩
          have R2 := R1.below c2
          have X2 := X1.below c2
          have B2 := bel_trans BW c2
          have xd0 := X2.cell 0 _ rfl
          have xd1 := X2.cell 1 _ rfl
          have xd2 := X2.cell 2 _ rfl
          have xd3 := X2.cell 3 _ rfl
          go_wp2_with fail
          refine (M.out _).mono ?_
          rintro e w7 ⟨rfl, c7⟩
          have R7 := R2.below c7
          have X7 := X2.below c7
          have B7 := bel_trans B2 c7
          clear xd0 xd1 xd2 xd3 x0
          have xde0 := X7.cell 0 _ rfl
          have xde1 := X7.cell 1 _ rfl
          have xde2 := X7.cell 2 _ rfl
          have xde3 := X7.cell 3 _ rfl
          have rc0 := R7.cell 0 _ rfl
          have rf0 := R7.frozen 0
          have rc1 := R7.cell 1 _ rfl
          have rf1 := R7.frozen 1
          have rc2 := R7.cell 2 _ rfl
          have rf2 := R7.frozen 2
          have rc3 := R7.cell 3 _ rfl
          have rf3 := R7.frozen 3
          go_wp2_with fail
          generalize hW : World.setCell _ _ _ = W
          have RW : SBox W w.heap.size 30 #[.int .i64 (a.toNat : Int), .int .i64 (b.toNat : Int), .string ⟨#[]⟩, .string ⟨#[]⟩] := by rw [← hW]; exact R7.put4 _ _ _ _
          have BZ : Below w.heap.size w W := by rw [← hW]; exact bel_put4 B7 (Nat.le_refl _) _ _ _ _
          exact bodyPost_ret (v := .tuple #[evA ((a.toNat : Int), (b.toNat : Int), [], []), .int .i64 0]) (results_row_tmp Try.results68 _ _ w.heap.size 30 _ (0, 0) _ rfl RW Try.underlying30 rfl size_ev) rfl ⟨rfl, BZ⟩
        · rw [if_pos (Or.inr hm)] at hT
          rw [decide_eq_false hm] at M
          rw [takeER_bad hT]
          clear hT hm
          go_enter Try.func68, Try.ntmps68
          go_wp2_with fail
          refine wp_region_any (by kernel_rfl) ?_
          change wpAny _ _ _ _ _ _ _ (World.drew _)
          refine wpAny_take (i := 0) (v := (.string ⟨S.toArray⟩)) rfl (by kernel_rfl) (by kernel_rfl) (by kernel_rfl) (fun _ _ _ h => h) (Or.inl ⟨by kernel_rfl, fun w => by go_simp⟩) ?_
          refine wpAny_take (i := 1) (v := (.int .u8 (a.toNat : Int))) rfl (by kernel_rfl) (by kernel_rfl) (by kernel_rfl) (fun _ _ _ h => h) (Or.inl ⟨by kernel_rfl, fun w => by go_simp⟩) ?_
          refine wpAny_take (i := 2) (v := (.int .i64 (a.toNat : Int))) rfl (by kernel_rfl) (by kernel_rfl) (by kernel_rfl) (fun _ _ _ h => h) (Or.inl ⟨by kernel_rfl, fun w => by go_simp⟩) ?_
          refine wpAny_take (i := 3) (v := (.string ⟨S.toArray⟩)) rfl (by kernel_rfl) (by kernel_rfl) (by kernel_rfl) (fun _ _ _ h => h) (Or.inl ⟨by kernel_rfl, fun w => by go_simp⟩) ?_
          refine wpAny_take (i := 4) (v := (.int .u8 (b.toNat : Int))) rfl (by kernel_rfl) (by kernel_rfl) (by kernel_rfl) (fun _ _ _ h => h) (Or.inl ⟨by kernel_rfl, fun w => by go_simp⟩) ?_
          refine wpAny_take (i := 5) (v := (.int .i64 (b.toNat : Int))) rfl (by kernel_rfl) (by kernel_rfl) (by kernel_rfl) (fun _ _ _ h => h) (Or.inl ⟨by kernel_rfl, fun w => by go_simp⟩) ?_
          refine wpAny_take (i := 6) (v := (.agg #[.int .i64 (a.toNat : Int), .int .i64 (b.toNat : Int), .string ⟨#[]⟩, .string ⟨#[]⟩])) rfl (by kernel_rfl) (by kernel_rfl) (by kernel_rfl) (fun _ _ _ h => h) (Or.inl ⟨by kernel_rfl, fun w => by go_simp⟩) ?_
          refine wpAny_take (i := 7) (v := (.string ⟨S.toArray⟩)) rfl (by kernel_rfl) (by kernel_rfl) (by kernel_rfl) (fun _ _ _ h => h) (Or.inl ⟨by kernel_rfl, fun w => by go_simp⟩) ?_
          refine wpAny_take (i := 8) (v := (.string ⟨#[]⟩)) rfl (by kernel_rfl) (by kernel_rfl) (by kernel_rfl) (fun _ _ _ h => h) (Or.inl ⟨by kernel_rfl, fun w => by go_simp⟩) ?_
          refine any_seqI [9, 10, 11] [_, _, _] _ _ _ rfl (by kernel_rfl) ?_
          go_wp2_with fail
          refine (T.out _).mono ?_
          rintro e w2 ⟨rfl, c2⟩
          have R2 := R1.below c2
          have X2 := X1.below c2
          have B2 := bel_trans BW c2
          have xd0 := X2.cell 0 _ rfl
          have xd1 := X2.cell 1 _ rfl
          have xd2 := X2.cell 2 _ rfl
          have xd3 := X2.cell 3 _ rfl
          go_wp2_with fail
          refine (M.out _).mono ?_
          rintro e w7 ⟨rfl, c7⟩
          have R7 := R2.below c7
          have X7 := X2.below c7
          have B7 := bel_trans B2 c7
          clear xd0 xd1 xd2 xd3 x0
          have rc0 := R7.cell 0 _ rfl
          have rf0 := R7.frozen 0
          have rc1 := R7.cell 1 _ rfl
          have rf1 := R7.frozen 1
          have rc2 := R7.cell 2 _ rfl
          have rf2 := R7.frozen 2
          have rc3 := R7.cell 3 _ rfl
          have rf3 := R7.frozen 3
          go_wp2_with fail
          generalize hW : World.setCell _ _ _ = W
          have RW : SBox W w.heap.size 30 #[.int .i64 0, .int .i64 0, .string ⟨#[]⟩, .string ⟨#[]⟩] := by rw [← hW]; exact R7.put4 _ _ _ _
          have BZ : Below w.heap.size w W := by rw [← hW]; exact bel_put4 B7 (Nat.le_refl _) _ _ _ _
          exact bodyPost_ret (v := .tuple #[evA (0, 0, [], []), .int .i64 3]) (results_row_tmp Try.results68 _ _ w.heap.size 30 _ (0, 0) _ rfl RW Try.underlying30 rfl size_ev) rfl ⟨rfl, BZ⟩
      · rw [if_pos (Or.inl (by cases r with | nil => exact absurd rfl hr | cons _ _ => simp))] at hT
        rw [takeER_bad hT]
        have q := ne_empty' r hr
        clear hT hr
        go_enter Try.func68, Try.ntmps68
        go_wp2_with fail
        refine wp_region_any (by kernel_rfl) ?_
        change wpAny _ _ _ _ _ _ _ (World.drew _)
        refine wpAny_take (i := 0) (v := (.string ⟨S.toArray⟩)) rfl (by kernel_rfl) (by kernel_rfl) (by kernel_rfl) (fun _ _ _ h => h) (Or.inl ⟨by kernel_rfl, fun w => by go_simp⟩) ?_
        refine wpAny_take (i := 1) (v := (.int .u8 (a.toNat : Int))) rfl (by kernel_rfl) (by kernel_rfl) (by kernel_rfl) (fun _ _ _ h => h) (Or.inl ⟨by kernel_rfl, fun w => by go_simp⟩) ?_
        refine wpAny_take (i := 2) (v := (.int .i64 (a.toNat : Int))) rfl (by kernel_rfl) (by kernel_rfl) (by kernel_rfl) (fun _ _ _ h => h) (Or.inl ⟨by kernel_rfl, fun w => by go_simp⟩) ?_
        refine wpAny_take (i := 3) (v := (.string ⟨S.toArray⟩)) rfl (by kernel_rfl) (by kernel_rfl) (by kernel_rfl) (fun _ _ _ h => h) (Or.inl ⟨by kernel_rfl, fun w => by go_simp⟩) ?_
        refine wpAny_take (i := 4) (v := (.int .u8 (b.toNat : Int))) rfl (by kernel_rfl) (by kernel_rfl) (by kernel_rfl) (fun _ _ _ h => h) (Or.inl ⟨by kernel_rfl, fun w => by go_simp⟩) ?_
        refine wpAny_take (i := 5) (v := (.int .i64 (b.toNat : Int))) rfl (by kernel_rfl) (by kernel_rfl) (by kernel_rfl) (fun _ _ _ h => h) (Or.inl ⟨by kernel_rfl, fun w => by go_simp⟩) ?_
        refine wpAny_take (i := 6) (v := (.agg #[.int .i64 (a.toNat : Int), .int .i64 (b.toNat : Int), .string ⟨#[]⟩, .string ⟨#[]⟩])) rfl (by kernel_rfl) (by kernel_rfl) (by kernel_rfl) (fun _ _ _ h => h) (Or.inl ⟨by kernel_rfl, fun w => by go_simp⟩) ?_
        refine wpAny_take (i := 7) (v := (.string ⟨S.toArray⟩)) rfl (by kernel_rfl) (by kernel_rfl) (by kernel_rfl) (fun _ _ _ h => h) (Or.inl ⟨by kernel_rfl, fun w => by go_simp⟩) ?_
        refine wpAny_take (i := 8) (v := (.string ⟨r.toArray⟩)) rfl (by kernel_rfl) (by kernel_rfl) (by kernel_rfl) (fun _ _ _ h => h) (Or.inl ⟨by kernel_rfl, fun w => by go_simp⟩) ?_
        refine any_seqI [9, 10, 11] [_, _, _] _ _ _ rfl (by kernel_rfl) ?_
        go_wp2_with fail
        refine (T.out _).mono ?_
        rintro e w2 ⟨rfl, c2⟩
        have R2 := R1.below c2
        have X2 := X1.below c2
        have B2 := bel_trans BW c2
        have rc0 := R2.cell 0 _ rfl
        have rf0 := R2.frozen 0
        have rc1 := R2.cell 1 _ rfl
        have rf1 := R2.frozen 1
        have rc2 := R2.cell 2 _ rfl
        have rf2 := R2.frozen 2
        have rc3 := R2.cell 3 _ rfl
        have rf3 := R2.frozen 3
        go_wp2_with fail
        generalize hW : World.setCell _ _ _ = W
        have RW : SBox W w.heap.size 30 #[.int .i64 0, .int .i64 0, .string ⟨#[]⟩, .string ⟨#[]⟩] := by rw [← hW]; exact R2.put4 _ _ _ _
        have BZ : Below w.heap.size w W := by rw [← hW]; exact bel_put4 B2 (Nat.le_refl _) _ _ _ _
        exact bodyPost_ret (v := .tuple #[evA (0, 0, [], []), .int .i64 3]) (results_row_tmp Try.results68 _ _ w.heap.size 30 _ (0, 0) _ rfl RW Try.underlying30 rfl size_ev) rfl ⟨rfl, BZ⟩
end Go.Proofs.Ytngllioidfffdaa
