/-
  What cartouchelaw17.shown answers.
-/
import Derived.Test.YtngllioidfffdaaZP17Put
import Derived.Test.YtngllioidfffdaaZP17Crash
import Derived.Test.YtngllioidfffdaaZR17Has
namespace Go.Proofs.Ytngllioidfffdaa
set_option maxRecDepth 100000
open Go.RowKit
set_option linter.unusedVariables false
set_option linter.unusedSimpArgs false
attribute [local go_sem] ba_size
set_option maxHeartbeats 4000000 in
theorem shown17_any (w : World) : Calls Try.prog 10 #[] w fun e w' => e = .returned (.bool true) ∧ Below w.heap.size w w' := by
  have h1 : newS 100 = ((([], [], 100, (-1), false), ([], [], [])), 0) := by kernel_rfl
  have h2 : putS (([], [], 100, (-1), false), ([], [], [])) (1, 1, [], []) = ((([], [3, 101, 1, 1], 96, (-1), false), ([(1, 1, [], [])], [], [])), 0) := by kernel_rfl
  have h3 : sealS (([], [3, 101, 1, 1], 96, (-1), false), ([(1, 1, [], [])], [], [])) = ((([3, 101, 1, 1, 1, 115], [], 94, (-1), false), ([], [[(1, 1, [], [])]], [])), 0) := by kernel_rfl
  have h4 : crashS (([3, 101, 1, 1, 1, 115], [], 94, (-1), false), ([], [[(1, 1, [], [])]], [])) 0 = ((([3, 101, 1, 1, 1, 115], [], 94, (-1), false), ([], [[(1, 1, [], [])]], [])), 0) := by kernel_rfl
  have h5 : crashS (([], [3, 101, 1, 1], 96, (-1), false), ([(1, 1, [], [])], [], [])) 0 = ((([], [], 100, (-1), false), ([], [], [])), 0) := by kernel_rfl
  have C1 := fun W => pnew17_any 100 W
  have C2 := fun vo vh vc H' W hS => pput17_any [] [] 100 (-1) false vo vh vc H' ([], [], []) 1 1 [] [] ⟨⟨by simp only; omega, by simp only; omega⟩, ⟨by simp only; omega, by simp only; omega⟩, by simp only [List.length_nil, List.length_cons]; omega, by simp only [List.length_nil, List.length_cons]; omega⟩ (by decide) W hS
  have C3 := fun vo vh vc H' W hS => pseal17_any [] [3, 101, 1, 1] 96 (-1) false vo vh vc H' ([(1, 1, [], [])], [], []) ⟨⟨by simp only; omega, by simp only; omega⟩, ⟨by simp only; omega, by simp only; omega⟩, by simp only [List.length_nil, List.length_cons]; omega, by simp only [List.length_nil, List.length_cons]; omega⟩ (by decide) W hS
  have C4 := fun vo vh vc H' W hS => pcrash17_any [3, 101, 1, 1, 1, 115] [] 94 (-1) false vo vh vc H' ([], [[(1, 1, [], [])]], []) 0 (by decide) W hS
  have C5 := fun vo vh vc H' W hS => pcrash17_any [] [3, 101, 1, 1] 96 (-1) false vo vh vc H' ([(1, 1, [], [])], [], []) 0 (by decide) W hS
  rw [h1] at C1
  rw [h2] at C2
  rw [h3] at C3
  rw [h4] at C4
  rw [h5] at C5
  clear h1 h2 h3 h4 h5
  unfold OpenRes at C4 C5
  unfold StoRes at C1 C2 C3 C4 C5
  simp only [stC] at C1 C2 C3 C4 C5
  go_enter Try.func10, Try.ntmps10
  go_wp2_with fail
  refine (C1 _).mono ?_
  rintro e_ w_1 ⟨uo_s, uh_s, uc_s, rfl, b_1, G_s, hT⟩
  have B1 := (Below.refl w.heap.size w).trans (b_1.mono (Below.refl w.heap.size w).size)
  clear b_1
  have A_s := agrOf hT
  have HT_s := Lib.hid hT
  clear hT
  have I_s := HT_s.out _ A_s (StIn.zero _)
  obtain ⟨ao_s, no_s, co_s, ah_s, nh_s, ch_s, ac_s, nc_s, cc_s, rfl, rfl, rfl⟩ := I_s.slices
  obtain ⟨⟨n1_s, q1_s, q2_s, _⟩, ⟨n2_s, q3_s, q4_s, _⟩, ⟨n3_s, _, _, _⟩⟩ := I_s.nums
  simp only [List.length_nil, List.length_cons, Nat.zero_add] at n1_s n2_s n3_s
  subst n1_s n2_s n3_s
  simp only [stC]
  replace I_s := I_s.below ((Below.refl _ _).alloc (Nat.le_refl _) (.cells #[.string ⟨#[]⟩, .string ⟨#[]⟩, .int .i64 100, .int .i64 (-1), .bool false, .slice ao_s 0 co_s, .slice ah_s 0 ch_s, .slice ac_s 0 cc_s] 28))
  replace A_s := A_s.trans (Agr.below ((Below.refl _ _).alloc (Nat.le_refl _) (.cells #[.string ⟨#[]⟩, .string ⟨#[]⟩, .int .i64 100, .int .i64 (-1), .bool false, .slice ao_s 0 co_s, .slice ah_s 0 ch_s, .slice ac_s 0 cc_s] 28)))
  have X_s := SBox.new w_1 28 #[.string ⟨#[]⟩, .string ⟨#[]⟩, .int .i64 100, .int .i64 (-1), .bool false, .slice ao_s 0 co_s, .slice ah_s 0 ch_s, .slice ac_s 0 cc_s]
  have l_s := Lib.hid B1.size
  have B2 := B1.alloc B1.size (.cells #[.string ⟨#[]⟩, .string ⟨#[]⟩, .int .i64 100, .int .i64 (-1), .bool false, .slice ao_s 0 co_s, .slice ah_s 0 ch_s, .slice ac_s 0 cc_s] 28)
  clear B1
  have c_s0_2 := X_s.cell 0 _ rfl
  have fc_s0_2 := X_s.frozen 0
  have c_s1_3 := X_s.cell 1 _ rfl
  have fc_s1_3 := X_s.frozen 1
  have c_s2_4 := X_s.cell 2 _ rfl
  have fc_s2_4 := X_s.frozen 2
  have c_s3_5 := X_s.cell 3 _ rfl
  have fc_s3_5 := X_s.frozen 3
  have c_s4_6 := X_s.cell 4 _ rfl
  have fc_s4_6 := X_s.frozen 4
  have c_s5_7 := X_s.cell 5 _ rfl
  have fc_s5_7 := X_s.frozen 5
  have c_s6_8 := X_s.cell 6 _ rfl
  have fc_s6_8 := X_s.frozen 6
  have c_s7_9 := X_s.cell 7 _ rfl
  have fc_s7_9 := X_s.frozen 7
  go_wp2_with fail
  refine (C2 _ _ _ _ _ I_s).mono ?_
  rintro e_ w_10 ⟨uo_a, uh_a, uc_a, rfl, b_10, G_a, hT⟩
  clear c_s0_2 fc_s0_2 c_s1_3 fc_s1_3 c_s2_4 fc_s2_4 c_s3_5 fc_s3_5 c_s4_6 fc_s4_6 c_s5_7 fc_s5_7 c_s6_8 fc_s6_8 c_s7_9 fc_s7_9
  replace X_s := X_s.below b_10
  replace I_s := I_s.below b_10
  replace A_s := A_s.trans (Agr.below b_10)
  have B3 := B2.trans (b_10.mono B2.size)
  clear B2
  clear b_10
  have A_a := agrOf hT
  have HT_a := Lib.hid hT
  clear hT
  have I_a := HT_a.out _ A_a (I_s)
  obtain ⟨ao_a, no_a, co_a, ah_a, nh_a, ch_a, ac_a, nc_a, cc_a, rfl, rfl, rfl⟩ := I_a.slices
  obtain ⟨⟨n1_a, q1_a, q2_a, _⟩, ⟨n2_a, q3_a, q4_a, _⟩, ⟨n3_a, _, _, _⟩⟩ := I_a.nums
  simp only [List.length_nil, List.length_cons, Nat.zero_add] at n1_a n2_a n3_a
  subst n1_a n2_a n3_a
  simp only [stC]
  replace X_s := X_s.alloc (.cells #[.string ⟨#[]⟩, .string ⟨#[3, 101, 1, 1]⟩, .int .i64 96, .int .i64 (-1), .bool false, .slice ao_a 1 co_a, .slice ah_a 0 ch_a, .slice ac_a 0 cc_a] 28)
  replace I_s := I_s.below ((Below.refl _ _).alloc (Nat.le_refl _) (.cells #[.string ⟨#[]⟩, .string ⟨#[3, 101, 1, 1]⟩, .int .i64 96, .int .i64 (-1), .bool false, .slice ao_a 1 co_a, .slice ah_a 0 ch_a, .slice ac_a 0 cc_a] 28))
  replace I_a := I_a.below ((Below.refl _ _).alloc (Nat.le_refl _) (.cells #[.string ⟨#[]⟩, .string ⟨#[3, 101, 1, 1]⟩, .int .i64 96, .int .i64 (-1), .bool false, .slice ao_a 1 co_a, .slice ah_a 0 ch_a, .slice ac_a 0 cc_a] 28))
  replace A_s := A_s.trans (Agr.below ((Below.refl _ _).alloc (Nat.le_refl _) (.cells #[.string ⟨#[]⟩, .string ⟨#[3, 101, 1, 1]⟩, .int .i64 96, .int .i64 (-1), .bool false, .slice ao_a 1 co_a, .slice ah_a 0 ch_a, .slice ac_a 0 cc_a] 28)))
  replace A_a := A_a.trans (Agr.below ((Below.refl _ _).alloc (Nat.le_refl _) (.cells #[.string ⟨#[]⟩, .string ⟨#[3, 101, 1, 1]⟩, .int .i64 96, .int .i64 (-1), .bool false, .slice ao_a 1 co_a, .slice ah_a 0 ch_a, .slice ac_a 0 cc_a] 28)))
  have X_a := SBox.new w_10 28 #[.string ⟨#[]⟩, .string ⟨#[3, 101, 1, 1]⟩, .int .i64 96, .int .i64 (-1), .bool false, .slice ao_a 1 co_a, .slice ah_a 0 ch_a, .slice ac_a 0 cc_a]
  have l_a := Lib.hid B3.size
  have B4 := B3.alloc B3.size (.cells #[.string ⟨#[]⟩, .string ⟨#[3, 101, 1, 1]⟩, .int .i64 96, .int .i64 (-1), .bool false, .slice ao_a 1 co_a, .slice ah_a 0 ch_a, .slice ac_a 0 cc_a] 28)
  clear B3
  have c_a0_11 := X_a.cell 0 _ rfl
  have fc_a0_11 := X_a.frozen 0
  have c_a1_12 := X_a.cell 1 _ rfl
  have fc_a1_12 := X_a.frozen 1
  have c_a2_13 := X_a.cell 2 _ rfl
  have fc_a2_13 := X_a.frozen 2
  have c_a3_14 := X_a.cell 3 _ rfl
  have fc_a3_14 := X_a.frozen 3
  have c_a4_15 := X_a.cell 4 _ rfl
  have fc_a4_15 := X_a.frozen 4
  have c_a5_16 := X_a.cell 5 _ rfl
  have fc_a5_16 := X_a.frozen 5
  have c_a6_17 := X_a.cell 6 _ rfl
  have fc_a6_17 := X_a.frozen 6
  have c_a7_18 := X_a.cell 7 _ rfl
  have fc_a7_18 := X_a.frozen 7
  go_wp2_with fail
  refine (C3 _ _ _ _ _ I_a).mono ?_
  rintro e_ w_19 ⟨uo_b, uh_b, uc_b, rfl, b_19, G_b, hT⟩
  clear c_a0_11 fc_a0_11 c_a1_12 fc_a1_12 c_a2_13 fc_a2_13 c_a3_14 fc_a3_14 c_a4_15 fc_a4_15 c_a5_16 fc_a5_16 c_a6_17 fc_a6_17 c_a7_18 fc_a7_18
  replace X_s := X_s.below b_19
  replace X_a := X_a.below b_19
  replace I_s := I_s.below b_19
  replace I_a := I_a.below b_19
  replace A_s := A_s.trans (Agr.below b_19)
  replace A_a := A_a.trans (Agr.below b_19)
  have B5 := B4.trans (b_19.mono B4.size)
  clear B4
  clear b_19
  have A_b := agrOf hT
  have HT_b := Lib.hid hT
  clear hT
  have I_b := HT_b.out _ A_b (I_a)
  obtain ⟨ao_b, no_b, co_b, ah_b, nh_b, ch_b, ac_b, nc_b, cc_b, rfl, rfl, rfl⟩ := I_b.slices
  obtain ⟨⟨n1_b, q1_b, q2_b, _⟩, ⟨n2_b, q3_b, q4_b, _⟩, ⟨n3_b, _, _, _⟩⟩ := I_b.nums
  simp only [List.length_nil, List.length_cons, Nat.zero_add] at n1_b n2_b n3_b
  subst n1_b n2_b n3_b
  simp only [stC]
  replace X_s := X_s.alloc (.cells #[.string ⟨#[3, 101, 1, 1, 1, 115]⟩, .string ⟨#[]⟩, .int .i64 94, .int .i64 (-1), .bool false, .slice ao_b 0 co_b, .slice ah_b 1 ch_b, .slice ac_b 0 cc_b] 28)
  replace X_a := X_a.alloc (.cells #[.string ⟨#[3, 101, 1, 1, 1, 115]⟩, .string ⟨#[]⟩, .int .i64 94, .int .i64 (-1), .bool false, .slice ao_b 0 co_b, .slice ah_b 1 ch_b, .slice ac_b 0 cc_b] 28)
  replace I_s := I_s.below ((Below.refl _ _).alloc (Nat.le_refl _) (.cells #[.string ⟨#[3, 101, 1, 1, 1, 115]⟩, .string ⟨#[]⟩, .int .i64 94, .int .i64 (-1), .bool false, .slice ao_b 0 co_b, .slice ah_b 1 ch_b, .slice ac_b 0 cc_b] 28))
  replace I_a := I_a.below ((Below.refl _ _).alloc (Nat.le_refl _) (.cells #[.string ⟨#[3, 101, 1, 1, 1, 115]⟩, .string ⟨#[]⟩, .int .i64 94, .int .i64 (-1), .bool false, .slice ao_b 0 co_b, .slice ah_b 1 ch_b, .slice ac_b 0 cc_b] 28))
  replace I_b := I_b.below ((Below.refl _ _).alloc (Nat.le_refl _) (.cells #[.string ⟨#[3, 101, 1, 1, 1, 115]⟩, .string ⟨#[]⟩, .int .i64 94, .int .i64 (-1), .bool false, .slice ao_b 0 co_b, .slice ah_b 1 ch_b, .slice ac_b 0 cc_b] 28))
  replace A_s := A_s.trans (Agr.below ((Below.refl _ _).alloc (Nat.le_refl _) (.cells #[.string ⟨#[3, 101, 1, 1, 1, 115]⟩, .string ⟨#[]⟩, .int .i64 94, .int .i64 (-1), .bool false, .slice ao_b 0 co_b, .slice ah_b 1 ch_b, .slice ac_b 0 cc_b] 28)))
  replace A_a := A_a.trans (Agr.below ((Below.refl _ _).alloc (Nat.le_refl _) (.cells #[.string ⟨#[3, 101, 1, 1, 1, 115]⟩, .string ⟨#[]⟩, .int .i64 94, .int .i64 (-1), .bool false, .slice ao_b 0 co_b, .slice ah_b 1 ch_b, .slice ac_b 0 cc_b] 28)))
  replace A_b := A_b.trans (Agr.below ((Below.refl _ _).alloc (Nat.le_refl _) (.cells #[.string ⟨#[3, 101, 1, 1, 1, 115]⟩, .string ⟨#[]⟩, .int .i64 94, .int .i64 (-1), .bool false, .slice ao_b 0 co_b, .slice ah_b 1 ch_b, .slice ac_b 0 cc_b] 28)))
  have X_b := SBox.new w_19 28 #[.string ⟨#[3, 101, 1, 1, 1, 115]⟩, .string ⟨#[]⟩, .int .i64 94, .int .i64 (-1), .bool false, .slice ao_b 0 co_b, .slice ah_b 1 ch_b, .slice ac_b 0 cc_b]
  have l_b := Lib.hid B5.size
  have B6 := B5.alloc B5.size (.cells #[.string ⟨#[3, 101, 1, 1, 1, 115]⟩, .string ⟨#[]⟩, .int .i64 94, .int .i64 (-1), .bool false, .slice ao_b 0 co_b, .slice ah_b 1 ch_b, .slice ac_b 0 cc_b] 28)
  clear B5
  have c_b0_20 := X_b.cell 0 _ rfl
  have fc_b0_20 := X_b.frozen 0
  have c_b1_21 := X_b.cell 1 _ rfl
  have fc_b1_21 := X_b.frozen 1
  have c_b2_22 := X_b.cell 2 _ rfl
  have fc_b2_22 := X_b.frozen 2
  have c_b3_23 := X_b.cell 3 _ rfl
  have fc_b3_23 := X_b.frozen 3
  have c_b4_24 := X_b.cell 4 _ rfl
  have fc_b4_24 := X_b.frozen 4
  have c_b5_25 := X_b.cell 5 _ rfl
  have fc_b5_25 := X_b.frozen 5
  have c_b6_26 := X_b.cell 6 _ rfl
  have fc_b6_26 := X_b.frozen 6
  have c_b7_27 := X_b.cell 7 _ rfl
  have fc_b7_27 := X_b.frozen 7
  go_wp2_with fail
  refine (C4 _ _ _ _ _ I_b).mono ?_
  rintro e_ w_28 ⟨uo_c, uh_c, uc_c, rfl, b_28, G_c, hT⟩
  clear c_b0_20 fc_b0_20 c_b1_21 fc_b1_21 c_b2_22 fc_b2_22 c_b3_23 fc_b3_23 c_b4_24 fc_b4_24 c_b5_25 fc_b5_25 c_b6_26 fc_b6_26 c_b7_27 fc_b7_27
  replace X_s := X_s.below b_28
  replace X_a := X_a.below b_28
  replace X_b := X_b.below b_28
  replace I_s := I_s.below b_28
  replace I_a := I_a.below b_28
  replace I_b := I_b.below b_28
  replace A_s := A_s.trans (Agr.below b_28)
  replace A_a := A_a.trans (Agr.below b_28)
  replace A_b := A_b.trans (Agr.below b_28)
  have B7 := B6.trans (b_28.mono B6.size)
  clear B6
  clear b_28
  have A_c := agrOf hT
  have HT_c := Lib.hid hT
  clear hT
  have I_c := HT_c.out _ A_c (StIn.zero _)
  obtain ⟨ao_c, no_c, co_c, ah_c, nh_c, ch_c, ac_c, nc_c, cc_c, rfl, rfl, rfl⟩ := I_c.slices
  obtain ⟨⟨n1_c, q1_c, q2_c, _⟩, ⟨n2_c, q3_c, q4_c, _⟩, ⟨n3_c, _, _, _⟩⟩ := I_c.nums
  simp only [List.length_nil, List.length_cons, Nat.zero_add] at n1_c n2_c n3_c
  subst n1_c n2_c n3_c
  simp only [stC]
  replace X_s := X_s.alloc (.cells #[.string ⟨#[3, 101, 1, 1, 1, 115]⟩, .string ⟨#[]⟩, .int .i64 94, .int .i64 (-1), .bool false, .slice ao_c 0 co_c, .slice ah_c 1 ch_c, .slice ac_c 0 cc_c] 28)
  replace X_a := X_a.alloc (.cells #[.string ⟨#[3, 101, 1, 1, 1, 115]⟩, .string ⟨#[]⟩, .int .i64 94, .int .i64 (-1), .bool false, .slice ao_c 0 co_c, .slice ah_c 1 ch_c, .slice ac_c 0 cc_c] 28)
  replace X_b := X_b.alloc (.cells #[.string ⟨#[3, 101, 1, 1, 1, 115]⟩, .string ⟨#[]⟩, .int .i64 94, .int .i64 (-1), .bool false, .slice ao_c 0 co_c, .slice ah_c 1 ch_c, .slice ac_c 0 cc_c] 28)
  replace I_s := I_s.below ((Below.refl _ _).alloc (Nat.le_refl _) (.cells #[.string ⟨#[3, 101, 1, 1, 1, 115]⟩, .string ⟨#[]⟩, .int .i64 94, .int .i64 (-1), .bool false, .slice ao_c 0 co_c, .slice ah_c 1 ch_c, .slice ac_c 0 cc_c] 28))
  replace I_a := I_a.below ((Below.refl _ _).alloc (Nat.le_refl _) (.cells #[.string ⟨#[3, 101, 1, 1, 1, 115]⟩, .string ⟨#[]⟩, .int .i64 94, .int .i64 (-1), .bool false, .slice ao_c 0 co_c, .slice ah_c 1 ch_c, .slice ac_c 0 cc_c] 28))
  replace I_b := I_b.below ((Below.refl _ _).alloc (Nat.le_refl _) (.cells #[.string ⟨#[3, 101, 1, 1, 1, 115]⟩, .string ⟨#[]⟩, .int .i64 94, .int .i64 (-1), .bool false, .slice ao_c 0 co_c, .slice ah_c 1 ch_c, .slice ac_c 0 cc_c] 28))
  replace I_c := I_c.below ((Below.refl _ _).alloc (Nat.le_refl _) (.cells #[.string ⟨#[3, 101, 1, 1, 1, 115]⟩, .string ⟨#[]⟩, .int .i64 94, .int .i64 (-1), .bool false, .slice ao_c 0 co_c, .slice ah_c 1 ch_c, .slice ac_c 0 cc_c] 28))
  replace A_s := A_s.trans (Agr.below ((Below.refl _ _).alloc (Nat.le_refl _) (.cells #[.string ⟨#[3, 101, 1, 1, 1, 115]⟩, .string ⟨#[]⟩, .int .i64 94, .int .i64 (-1), .bool false, .slice ao_c 0 co_c, .slice ah_c 1 ch_c, .slice ac_c 0 cc_c] 28)))
  replace A_a := A_a.trans (Agr.below ((Below.refl _ _).alloc (Nat.le_refl _) (.cells #[.string ⟨#[3, 101, 1, 1, 1, 115]⟩, .string ⟨#[]⟩, .int .i64 94, .int .i64 (-1), .bool false, .slice ao_c 0 co_c, .slice ah_c 1 ch_c, .slice ac_c 0 cc_c] 28)))
  replace A_b := A_b.trans (Agr.below ((Below.refl _ _).alloc (Nat.le_refl _) (.cells #[.string ⟨#[3, 101, 1, 1, 1, 115]⟩, .string ⟨#[]⟩, .int .i64 94, .int .i64 (-1), .bool false, .slice ao_c 0 co_c, .slice ah_c 1 ch_c, .slice ac_c 0 cc_c] 28)))
  replace A_c := A_c.trans (Agr.below ((Below.refl _ _).alloc (Nat.le_refl _) (.cells #[.string ⟨#[3, 101, 1, 1, 1, 115]⟩, .string ⟨#[]⟩, .int .i64 94, .int .i64 (-1), .bool false, .slice ao_c 0 co_c, .slice ah_c 1 ch_c, .slice ac_c 0 cc_c] 28)))
  have X_c := SBox.new w_28 28 #[.string ⟨#[3, 101, 1, 1, 1, 115]⟩, .string ⟨#[]⟩, .int .i64 94, .int .i64 (-1), .bool false, .slice ao_c 0 co_c, .slice ah_c 1 ch_c, .slice ac_c 0 cc_c]
  have l_c := Lib.hid B7.size
  have B8 := B7.alloc B7.size (.cells #[.string ⟨#[3, 101, 1, 1, 1, 115]⟩, .string ⟨#[]⟩, .int .i64 94, .int .i64 (-1), .bool false, .slice ao_c 0 co_c, .slice ah_c 1 ch_c, .slice ac_c 0 cc_c] 28)
  clear B7
  have c_a0_29 := X_a.cell 0 _ rfl
  have fc_a0_29 := X_a.frozen 0
  have c_a1_30 := X_a.cell 1 _ rfl
  have fc_a1_30 := X_a.frozen 1
  have c_a2_31 := X_a.cell 2 _ rfl
  have fc_a2_31 := X_a.frozen 2
  have c_a3_32 := X_a.cell 3 _ rfl
  have fc_a3_32 := X_a.frozen 3
  have c_a4_33 := X_a.cell 4 _ rfl
  have fc_a4_33 := X_a.frozen 4
  have c_a5_34 := X_a.cell 5 _ rfl
  have fc_a5_34 := X_a.frozen 5
  have c_a6_35 := X_a.cell 6 _ rfl
  have fc_a6_35 := X_a.frozen 6
  have c_a7_36 := X_a.cell 7 _ rfl
  have fc_a7_36 := X_a.frozen 7
  go_wp2_with fail
  refine (C5 _ _ _ _ _ I_a).mono ?_
  rintro e_ w_37 ⟨uo_d, uh_d, uc_d, rfl, b_37, G_d, hT⟩
  clear c_a0_29 fc_a0_29 c_a1_30 fc_a1_30 c_a2_31 fc_a2_31 c_a3_32 fc_a3_32 c_a4_33 fc_a4_33 c_a5_34 fc_a5_34 c_a6_35 fc_a6_35 c_a7_36 fc_a7_36
  replace X_s := X_s.below b_37
  replace X_a := X_a.below b_37
  replace X_b := X_b.below b_37
  replace X_c := X_c.below b_37
  replace I_s := I_s.below b_37
  replace I_a := I_a.below b_37
  replace I_b := I_b.below b_37
  replace I_c := I_c.below b_37
  replace A_s := A_s.trans (Agr.below b_37)
  replace A_a := A_a.trans (Agr.below b_37)
  replace A_b := A_b.trans (Agr.below b_37)
  replace A_c := A_c.trans (Agr.below b_37)
  have B9 := B8.trans (b_37.mono B8.size)
  clear B8
  clear b_37
  have A_d := agrOf hT
  have HT_d := Lib.hid hT
  clear hT
  have I_d := HT_d.out _ A_d (StIn.zero _)
  obtain ⟨ao_d, no_d, co_d, ah_d, nh_d, ch_d, ac_d, nc_d, cc_d, rfl, rfl, rfl⟩ := I_d.slices
  obtain ⟨⟨n1_d, q1_d, q2_d, _⟩, ⟨n2_d, q3_d, q4_d, _⟩, ⟨n3_d, _, _, _⟩⟩ := I_d.nums
  simp only [List.length_nil, List.length_cons, Nat.zero_add] at n1_d n2_d n3_d
  subst n1_d n2_d n3_d
  simp only [stC]
  replace X_s := X_s.alloc (.cells #[.string ⟨#[]⟩, .string ⟨#[]⟩, .int .i64 100, .int .i64 (-1), .bool false, .slice ao_d 0 co_d, .slice ah_d 0 ch_d, .slice ac_d 0 cc_d] 28)
  replace X_a := X_a.alloc (.cells #[.string ⟨#[]⟩, .string ⟨#[]⟩, .int .i64 100, .int .i64 (-1), .bool false, .slice ao_d 0 co_d, .slice ah_d 0 ch_d, .slice ac_d 0 cc_d] 28)
  replace X_b := X_b.alloc (.cells #[.string ⟨#[]⟩, .string ⟨#[]⟩, .int .i64 100, .int .i64 (-1), .bool false, .slice ao_d 0 co_d, .slice ah_d 0 ch_d, .slice ac_d 0 cc_d] 28)
  replace X_c := X_c.alloc (.cells #[.string ⟨#[]⟩, .string ⟨#[]⟩, .int .i64 100, .int .i64 (-1), .bool false, .slice ao_d 0 co_d, .slice ah_d 0 ch_d, .slice ac_d 0 cc_d] 28)
  replace I_s := I_s.below ((Below.refl _ _).alloc (Nat.le_refl _) (.cells #[.string ⟨#[]⟩, .string ⟨#[]⟩, .int .i64 100, .int .i64 (-1), .bool false, .slice ao_d 0 co_d, .slice ah_d 0 ch_d, .slice ac_d 0 cc_d] 28))
  replace I_a := I_a.below ((Below.refl _ _).alloc (Nat.le_refl _) (.cells #[.string ⟨#[]⟩, .string ⟨#[]⟩, .int .i64 100, .int .i64 (-1), .bool false, .slice ao_d 0 co_d, .slice ah_d 0 ch_d, .slice ac_d 0 cc_d] 28))
  replace I_b := I_b.below ((Below.refl _ _).alloc (Nat.le_refl _) (.cells #[.string ⟨#[]⟩, .string ⟨#[]⟩, .int .i64 100, .int .i64 (-1), .bool false, .slice ao_d 0 co_d, .slice ah_d 0 ch_d, .slice ac_d 0 cc_d] 28))
  replace I_c := I_c.below ((Below.refl _ _).alloc (Nat.le_refl _) (.cells #[.string ⟨#[]⟩, .string ⟨#[]⟩, .int .i64 100, .int .i64 (-1), .bool false, .slice ao_d 0 co_d, .slice ah_d 0 ch_d, .slice ac_d 0 cc_d] 28))
  replace I_d := I_d.below ((Below.refl _ _).alloc (Nat.le_refl _) (.cells #[.string ⟨#[]⟩, .string ⟨#[]⟩, .int .i64 100, .int .i64 (-1), .bool false, .slice ao_d 0 co_d, .slice ah_d 0 ch_d, .slice ac_d 0 cc_d] 28))
  replace A_s := A_s.trans (Agr.below ((Below.refl _ _).alloc (Nat.le_refl _) (.cells #[.string ⟨#[]⟩, .string ⟨#[]⟩, .int .i64 100, .int .i64 (-1), .bool false, .slice ao_d 0 co_d, .slice ah_d 0 ch_d, .slice ac_d 0 cc_d] 28)))
  replace A_a := A_a.trans (Agr.below ((Below.refl _ _).alloc (Nat.le_refl _) (.cells #[.string ⟨#[]⟩, .string ⟨#[]⟩, .int .i64 100, .int .i64 (-1), .bool false, .slice ao_d 0 co_d, .slice ah_d 0 ch_d, .slice ac_d 0 cc_d] 28)))
  replace A_b := A_b.trans (Agr.below ((Below.refl _ _).alloc (Nat.le_refl _) (.cells #[.string ⟨#[]⟩, .string ⟨#[]⟩, .int .i64 100, .int .i64 (-1), .bool false, .slice ao_d 0 co_d, .slice ah_d 0 ch_d, .slice ac_d 0 cc_d] 28)))
  replace A_c := A_c.trans (Agr.below ((Below.refl _ _).alloc (Nat.le_refl _) (.cells #[.string ⟨#[]⟩, .string ⟨#[]⟩, .int .i64 100, .int .i64 (-1), .bool false, .slice ao_d 0 co_d, .slice ah_d 0 ch_d, .slice ac_d 0 cc_d] 28)))
  replace A_d := A_d.trans (Agr.below ((Below.refl _ _).alloc (Nat.le_refl _) (.cells #[.string ⟨#[]⟩, .string ⟨#[]⟩, .int .i64 100, .int .i64 (-1), .bool false, .slice ao_d 0 co_d, .slice ah_d 0 ch_d, .slice ac_d 0 cc_d] 28)))
  have X_d := SBox.new w_37 28 #[.string ⟨#[]⟩, .string ⟨#[]⟩, .int .i64 100, .int .i64 (-1), .bool false, .slice ao_d 0 co_d, .slice ah_d 0 ch_d, .slice ac_d 0 cc_d]
  have l_d := Lib.hid B9.size
  have B10 := B9.alloc B9.size (.cells #[.string ⟨#[]⟩, .string ⟨#[]⟩, .int .i64 100, .int .i64 (-1), .bool false, .slice ao_d 0 co_d, .slice ah_d 0 ch_d, .slice ac_d 0 cc_d] 28)
  clear B9
  obtain ⟨b1, o1, a1, n1, c1, rfl, p1, q1⟩ := hs_at17 I_c rfl 0 (by decide)
  obtain ⟨_, _, e1, _⟩ := q1.some_at
  simp only [Value.slice.injEq] at e1
  obtain ⟨_, rfl, _⟩ := e1
  simp only [Nat.add_zero, List.getElem_cons_zero, List.length_cons, List.length_nil] at p1
  have c_c0_38 := X_c.cell 0 _ rfl
  have fc_c0_38 := X_c.frozen 0
  have c_c1_39 := X_c.cell 1 _ rfl
  have fc_c1_39 := X_c.frozen 1
  have c_c2_40 := X_c.cell 2 _ rfl
  have fc_c2_40 := X_c.frozen 2
  have c_c3_41 := X_c.cell 3 _ rfl
  have fc_c3_41 := X_c.frozen 3
  have c_c4_42 := X_c.cell 4 _ rfl
  have fc_c4_42 := X_c.frozen 4
  have c_c5_43 := X_c.cell 5 _ rfl
  have fc_c5_43 := X_c.frozen 5
  have c_c6_44 := X_c.cell 6 _ rfl
  have fc_c6_44 := X_c.frozen 6
  have c_c7_45 := X_c.cell 7 _ rfl
  have fc_c7_45 := X_c.frozen 7
  have c_d0_46 := X_d.cell 0 _ rfl
  have fc_d0_46 := X_d.frozen 0
  have c_d1_47 := X_d.cell 1 _ rfl
  have fc_d1_47 := X_d.frozen 1
  have c_d2_48 := X_d.cell 2 _ rfl
  have fc_d2_48 := X_d.frozen 2
  have c_d3_49 := X_d.cell 3 _ rfl
  have fc_d3_49 := X_d.frozen 3
  have c_d4_50 := X_d.cell 4 _ rfl
  have fc_d4_50 := X_d.frozen 4
  have c_d5_51 := X_d.cell 5 _ rfl
  have fc_d5_51 := X_d.frozen 5
  have c_d6_52 := X_d.cell 6 _ rfl
  have fc_d6_52 := X_d.frozen 6
  have c_d7_53 := X_d.cell 7 _ rfl
  have fc_d7_53 := X_d.frozen 7
  go_wp2_with fail
  go_ret
  exact ⟨rfl, B10⟩
end Go.Proofs.Ytngllioidfffdaa
