/-
  StoreOpens: its walk.
-/
import Derived.Test.YtngllioidfffdaaZShown17
import Derived.Test.YtngllioidfffdaaZR17Open
import Derived.Lib.Hide
namespace Go.Proofs.Ytngllioidfffdaa
set_option maxRecDepth 100000
open Go.RowKit
set_option linter.unusedVariables false
set_option linter.unusedSimpArgs false
attribute [local go_sem] ba_size
set_option maxHeartbeats 4000000 in
theorem opens17_walk (s p : List UInt8) (r f : Int) (o : Bool) (hs : s.length + p.length ≤ 8796093021952) (w : World) :
    Calls Try.prog 4 #[tpV (s, p, r, f, o)] w fun e w' => e = .returned (.bool true) ∧ Below w.heap.size w w' := by
  have C2 := fun W => popen17_any s p r f o hs W
  have C3 := fun W => ropen17_any s p r f o hs W
  obtain ⟨s1, p1, r1, f1, o1, X1, E1, h1⟩ : ∃ a b c d g X E, openS (s, p, r, f, o) = (((a, b, c, d, g), X), E) := ⟨_, _, _, _, _, _, _, rfl⟩
  rw [h1] at C2 C3
  clear h1
  unfold OpenRes StoRes tpV tpC at *
  simp only [stC] at C2 C3 ⊢
  have X_t := SBox.new w 23 #[.string ⟨s.toArray⟩, .string ⟨p.toArray⟩, .int .i64 r, .int .i64 f, .bool o]
  have l_t := Lib.hid (Below.refl w.heap.size w).size
  have B1 := (Below.refl w.heap.size w).alloc (Below.refl w.heap.size w).size (.cells #[.string ⟨s.toArray⟩, .string ⟨p.toArray⟩, .int .i64 r, .int .i64 f, .bool o] 23)
  go_enter Try.func4, Try.ntmps4
  go_wp2_with fail
  refine (shown17_any _).mono ?_
  rintro e_ w_1 ⟨rfl, b_1⟩
  replace X_t := X_t.below b_1
  have B2 := B1.trans (b_1.mono B1.size)
  clear B1
  clear b_1
  have c_t0_2 := X_t.cell 0 _ rfl
  have fc_t0_2 := X_t.frozen 0
  have c_t1_3 := X_t.cell 1 _ rfl
  have fc_t1_3 := X_t.frozen 1
  have c_t2_4 := X_t.cell 2 _ rfl
  have fc_t2_4 := X_t.frozen 2
  have c_t3_5 := X_t.cell 3 _ rfl
  have fc_t3_5 := X_t.frozen 3
  have c_t4_6 := X_t.cell 4 _ rfl
  have fc_t4_6 := X_t.frozen 4
  go_wp2_with fail
  refine (C2 _).mono ?_
  rintro e_ w_7 ⟨uo_a, uh_a, uc_a, rfl, b_7, G_a, hT⟩
  clear c_t0_2 fc_t0_2 c_t1_3 fc_t1_3 c_t2_4 fc_t2_4 c_t3_5 fc_t3_5 c_t4_6 fc_t4_6
  replace X_t := X_t.below b_7
  have B3 := B2.trans (b_7.mono B2.size)
  clear B2
  clear b_7
  have A_a := agrOf hT
  have HT_a := Lib.hid hT
  clear hT
  have I_a := HT_a.out _ A_a (StIn.zero _)
  obtain ⟨ao_a, no_a, co_a, ah_a, nh_a, ch_a, ac_a, nc_a, cc_a, rfl, rfl, rfl⟩ := I_a.slices
  replace X_t := X_t.alloc (.cells #[.string ⟨s1.toArray⟩, .string ⟨p1.toArray⟩, .int .i64 r1, .int .i64 f1, .bool o1, .slice ao_a no_a co_a, .slice ah_a nh_a ch_a, .slice ac_a nc_a cc_a] 28)
  replace I_a := I_a.below ((Below.refl _ _).alloc (Nat.le_refl _) (.cells #[.string ⟨s1.toArray⟩, .string ⟨p1.toArray⟩, .int .i64 r1, .int .i64 f1, .bool o1, .slice ao_a no_a co_a, .slice ah_a nh_a ch_a, .slice ac_a nc_a cc_a] 28))
  replace A_a := A_a.trans (Agr.below ((Below.refl _ _).alloc (Nat.le_refl _) (.cells #[.string ⟨s1.toArray⟩, .string ⟨p1.toArray⟩, .int .i64 r1, .int .i64 f1, .bool o1, .slice ao_a no_a co_a, .slice ah_a nh_a ch_a, .slice ac_a nc_a cc_a] 28)))
  have X_a := SBox.new w_7 28 #[.string ⟨s1.toArray⟩, .string ⟨p1.toArray⟩, .int .i64 r1, .int .i64 f1, .bool o1, .slice ao_a no_a co_a, .slice ah_a nh_a ch_a, .slice ac_a nc_a cc_a]
  have l_a := Lib.hid B3.size
  have B4 := B3.alloc B3.size (.cells #[.string ⟨s1.toArray⟩, .string ⟨p1.toArray⟩, .int .i64 r1, .int .i64 f1, .bool o1, .slice ao_a no_a co_a, .slice ah_a nh_a ch_a, .slice ac_a nc_a cc_a] 28)
  clear B3
  have c_t0_8 := X_t.cell 0 _ rfl
  have fc_t0_8 := X_t.frozen 0
  have c_t1_9 := X_t.cell 1 _ rfl
  have fc_t1_9 := X_t.frozen 1
  have c_t2_10 := X_t.cell 2 _ rfl
  have fc_t2_10 := X_t.frozen 2
  have c_t3_11 := X_t.cell 3 _ rfl
  have fc_t3_11 := X_t.frozen 3
  have c_t4_12 := X_t.cell 4 _ rfl
  have fc_t4_12 := X_t.frozen 4
  go_wp2_with fail
  refine (C3 _).mono ?_
  rintro e_ w_13 ⟨uo_b, uh_b, uc_b, rfl, b_13, G_b, hT⟩
  clear c_t0_8 fc_t0_8 c_t1_9 fc_t1_9 c_t2_10 fc_t2_10 c_t3_11 fc_t3_11 c_t4_12 fc_t4_12
  replace X_t := X_t.below b_13
  replace X_a := X_a.below b_13
  replace I_a := I_a.below b_13
  replace A_a := A_a.trans (Agr.below b_13)
  have B5 := B4.trans (b_13.mono B4.size)
  clear B4
  clear b_13
  have A_b := agrOf hT
  have HT_b := Lib.hid hT
  clear hT
  have I_b := HT_b.out _ A_b (StIn.zero _)
  obtain ⟨ao_b, no_b, co_b, ah_b, nh_b, ch_b, ac_b, nc_b, cc_b, rfl, rfl, rfl⟩ := I_b.slices
  replace X_t := X_t.alloc (.cells #[.string ⟨s1.toArray⟩, .string ⟨p1.toArray⟩, .int .i64 r1, .int .i64 f1, .bool o1, .slice ao_b no_b co_b, .slice ah_b nh_b ch_b, .slice ac_b nc_b cc_b] 28)
  replace X_a := X_a.alloc (.cells #[.string ⟨s1.toArray⟩, .string ⟨p1.toArray⟩, .int .i64 r1, .int .i64 f1, .bool o1, .slice ao_b no_b co_b, .slice ah_b nh_b ch_b, .slice ac_b nc_b cc_b] 28)
  replace I_a := I_a.below ((Below.refl _ _).alloc (Nat.le_refl _) (.cells #[.string ⟨s1.toArray⟩, .string ⟨p1.toArray⟩, .int .i64 r1, .int .i64 f1, .bool o1, .slice ao_b no_b co_b, .slice ah_b nh_b ch_b, .slice ac_b nc_b cc_b] 28))
  replace I_b := I_b.below ((Below.refl _ _).alloc (Nat.le_refl _) (.cells #[.string ⟨s1.toArray⟩, .string ⟨p1.toArray⟩, .int .i64 r1, .int .i64 f1, .bool o1, .slice ao_b no_b co_b, .slice ah_b nh_b ch_b, .slice ac_b nc_b cc_b] 28))
  replace A_a := A_a.trans (Agr.below ((Below.refl _ _).alloc (Nat.le_refl _) (.cells #[.string ⟨s1.toArray⟩, .string ⟨p1.toArray⟩, .int .i64 r1, .int .i64 f1, .bool o1, .slice ao_b no_b co_b, .slice ah_b nh_b ch_b, .slice ac_b nc_b cc_b] 28)))
  replace A_b := A_b.trans (Agr.below ((Below.refl _ _).alloc (Nat.le_refl _) (.cells #[.string ⟨s1.toArray⟩, .string ⟨p1.toArray⟩, .int .i64 r1, .int .i64 f1, .bool o1, .slice ao_b no_b co_b, .slice ah_b nh_b ch_b, .slice ac_b nc_b cc_b] 28)))
  have X_b := SBox.new w_13 28 #[.string ⟨s1.toArray⟩, .string ⟨p1.toArray⟩, .int .i64 r1, .int .i64 f1, .bool o1, .slice ao_b no_b co_b, .slice ah_b nh_b ch_b, .slice ac_b nc_b cc_b]
  have l_b := Lib.hid B5.size
  have B6 := B5.alloc B5.size (.cells #[.string ⟨s1.toArray⟩, .string ⟨p1.toArray⟩, .int .i64 r1, .int .i64 f1, .bool o1, .slice ao_b no_b co_b, .slice ah_b nh_b ch_b, .slice ac_b nc_b cc_b] 28)
  clear B5
  have c_a0_14 := X_a.cell 0 _ rfl
  have fc_a0_14 := X_a.frozen 0
  have c_a1_15 := X_a.cell 1 _ rfl
  have fc_a1_15 := X_a.frozen 1
  have c_a2_16 := X_a.cell 2 _ rfl
  have fc_a2_16 := X_a.frozen 2
  have c_a3_17 := X_a.cell 3 _ rfl
  have fc_a3_17 := X_a.frozen 3
  have c_a4_18 := X_a.cell 4 _ rfl
  have fc_a4_18 := X_a.frozen 4
  have c_a5_19 := X_a.cell 5 _ rfl
  have fc_a5_19 := X_a.frozen 5
  have c_a6_20 := X_a.cell 6 _ rfl
  have fc_a6_20 := X_a.frozen 6
  have c_a7_21 := X_a.cell 7 _ rfl
  have fc_a7_21 := X_a.frozen 7
  have c_b0_22 := X_b.cell 0 _ rfl
  have fc_b0_22 := X_b.frozen 0
  have c_b1_23 := X_b.cell 1 _ rfl
  have fc_b1_23 := X_b.frozen 1
  have c_b2_24 := X_b.cell 2 _ rfl
  have fc_b2_24 := X_b.frozen 2
  have c_b3_25 := X_b.cell 3 _ rfl
  have fc_b3_25 := X_b.frozen 3
  have c_b4_26 := X_b.cell 4 _ rfl
  have fc_b4_26 := X_b.frozen 4
  have c_b5_27 := X_b.cell 5 _ rfl
  have fc_b5_27 := X_b.frozen 5
  have c_b6_28 := X_b.cell 6 _ rfl
  have fc_b6_28 := X_b.frozen 6
  have c_b7_29 := X_b.cell 7 _ rfl
  have fc_b7_29 := X_b.frozen 7
  go_wp2_with fail
  have C4 := rsame17_any s1 p1 s1 p1 r1 f1 r1 f1 o1 o1 _ _ _ _ _ _ G_a G_b X1 X1 _ I_a I_b
  rw [eqSd_yes rfl, decide_eq_true rfl] at C4
  simp only [stC, Bool.true_and] at C4
  refine (C4).mono ?_
  rintro e_ w_30 ⟨rfl, b_30⟩
  clear c_a0_14 fc_a0_14 c_a1_15 fc_a1_15 c_a2_16 fc_a2_16 c_a3_17 fc_a3_17 c_a4_18 fc_a4_18 c_a5_19 fc_a5_19 c_a6_20 fc_a6_20 c_a7_21 fc_a7_21 c_b0_22 fc_b0_22 c_b1_23 fc_b1_23 c_b2_24 fc_b2_24 c_b3_25 fc_b3_25 c_b4_26 fc_b4_26 c_b5_27 fc_b5_27 c_b6_28 fc_b6_28 c_b7_29 fc_b7_29
  replace X_t := X_t.below b_30
  replace X_a := X_a.below b_30
  replace X_b := X_b.below b_30
  replace I_a := I_a.below b_30
  replace I_b := I_b.below b_30
  replace A_a := A_a.trans (Agr.below b_30)
  replace A_b := A_b.trans (Agr.below b_30)
  have B7 := B6.trans (b_30.mono B6.size)
  clear B6
  clear b_30
  go_wp2_with fail
  go_ret
  exact ⟨rfl, B7⟩
end Go.Proofs.Ytngllioidfffdaa
