/-
  StoreSeals: its walk.
-/
import Derived.Test.YtngllioidfffdaaZShown17
import Derived.Test.YtngllioidfffdaaGX
import Derived.Lib.Hide
namespace Go.Proofs.Ytngllioidfffdaa
set_option maxRecDepth 100000
open Go.RowKit
set_option linter.unusedVariables false
set_option linter.unusedSimpArgs false
attribute [local go_sem] ba_size
set_option maxHeartbeats 8000000 in
theorem seals17_walk (s p : List UInt8) (r f : Int) (o : Bool) (vo vh vc : Value) (H' : List Value) (x : Sd) (hg : goodW (s, p, r, f, o)) (hsp : s.length ≤ 562949953421312 ∧ p.length ≤ 562949953421312) (w : World) (hS : StIn w vo vh vc H' x) :
    Calls Try.prog 8 #[.agg (stC (s, p, r, f, o) vo vh vc)] w fun e w' => e = .returned (.bool true) ∧ Below w.heap.size w w' := by
  obtain ⟨ao_s, no_s, co_s, ah_s, nh_s, ch_s, ac_s, nc_s, cc_s, rfl, rfl, rfl⟩ := hS.slices
  have HS := Lib.hid hS
  have NS := Lib.hid hS.nums
  clear hS
  have C2 := fun W hS => pseal17_any s p r f o (.slice ao_s no_s co_s) (.slice ah_s nh_s ch_s) (.slice ac_s nc_s cc_s) H' x hg hsp W hS
  have hform := seal_form ((s, p, r, f, o), x)
  obtain ⟨s1, p1, r1, f1, o1, X1, E1, h1⟩ : ∃ a' b' c d g X E, sealS ((s, p, r, f, o), x) = (((a', b', c, d, g), X), E) := ⟨_, _, _, _, _, _, _, rfl⟩
  rw [h1] at C2 hform
  simp only at hform
  clear h1
  unfold StoRes at C2
  simp only [stC] at C2 ⊢
  rcases hform with ⟨hE, hX⟩ | ⟨rfl, hX, rfl⟩
  · rw [hX] at C2
    clear hX
    have X_s := SBox.new w 28 #[.string ⟨s.toArray⟩, .string ⟨p.toArray⟩, .int .i64 r, .int .i64 f, .bool o, .slice ao_s no_s co_s, .slice ah_s nh_s ch_s, .slice ac_s nc_s cc_s]
    have l_s := Lib.hid (Below.refl w.heap.size w).size
    have B1 := (Below.refl w.heap.size w).alloc (Below.refl w.heap.size w).size (.cells #[.string ⟨s.toArray⟩, .string ⟨p.toArray⟩, .int .i64 r, .int .i64 f, .bool o, .slice ao_s no_s co_s, .slice ah_s nh_s ch_s, .slice ac_s nc_s cc_s] 28)
    go_enter Try.func8, Try.ntmps8
    go_wp2_with fail
    refine (shown17_any _).mono ?_
    rintro e_ w_1 ⟨rfl, b_1⟩
    replace X_s := X_s.below b_1
    have B2 := B1.trans (b_1.mono B1.size)
    clear B1
    clear b_1
    have c_s0_2 := X_s.cell 0 _ rfl
    have fc_s0_2 := X_s.frozen 0
    have c_s1_3 := X_s.cell 1 _ rfl
    have fc_s1_3 := X_s.frozen 1
    have c_s2_4 := X_s.cell 2 _ rfl
    have fc_s2_4 := X_s.frozen 2
    have c_s3_5 := X_s.cell 3 _ rfl
    have fc_s3_5 := X_s.frozen 3
    have c_s4_6 := X_s.cell 4 _ rfl
    have fc_s4_6 := X_s.frozen 4
    have c_s5_7 := X_s.cell 5 _ rfl
    have fc_s5_7 := X_s.frozen 5
    have c_s6_8 := X_s.cell 6 _ rfl
    have fc_s6_8 := X_s.frozen 6
    have c_s7_9 := X_s.cell 7 _ rfl
    have fc_s7_9 := X_s.frozen 7
    go_wp2_with fail
    refine (C2 _ (HS.out.below B2)).mono ?_
    rintro e_ w_10 ⟨uo_k, uh_k, uc_k, rfl, b_10, G_k, hT⟩
    clear c_s0_2 fc_s0_2 c_s1_3 fc_s1_3 c_s2_4 fc_s2_4 c_s3_5 fc_s3_5 c_s4_6 fc_s4_6 c_s5_7 fc_s5_7 c_s6_8 fc_s6_8 c_s7_9 fc_s7_9
    replace X_s := X_s.below b_10
    have B3 := B2.trans (b_10.mono B2.size)
    clear B2
    clear b_10
    have A_k := agrOf hT
    have HT_k := Lib.hid hT
    clear hT
    have I_k := HT_k.out _ A_k (HS.out.below B3)
    obtain ⟨ao_k, no_k, co_k, ah_k, nh_k, ch_k, ac_k, nc_k, cc_k, rfl, rfl, rfl⟩ := I_k.slices
    replace X_s := X_s.alloc (.cells #[.string ⟨s1.toArray⟩, .string ⟨p1.toArray⟩, .int .i64 r1, .int .i64 f1, .bool o1, .slice ao_k no_k co_k, .slice ah_k nh_k ch_k, .slice ac_k nc_k cc_k] 28)
    replace I_k := I_k.below ((Below.refl _ _).alloc (Nat.le_refl _) (.cells #[.string ⟨s1.toArray⟩, .string ⟨p1.toArray⟩, .int .i64 r1, .int .i64 f1, .bool o1, .slice ao_k no_k co_k, .slice ah_k nh_k ch_k, .slice ac_k nc_k cc_k] 28))
    replace A_k := A_k.trans (Agr.below ((Below.refl _ _).alloc (Nat.le_refl _) (.cells #[.string ⟨s1.toArray⟩, .string ⟨p1.toArray⟩, .int .i64 r1, .int .i64 f1, .bool o1, .slice ao_k no_k co_k, .slice ah_k nh_k ch_k, .slice ac_k nc_k cc_k] 28)))
    have X_k := SBox.new w_10 28 #[.string ⟨s1.toArray⟩, .string ⟨p1.toArray⟩, .int .i64 r1, .int .i64 f1, .bool o1, .slice ao_k no_k co_k, .slice ah_k nh_k ch_k, .slice ac_k nc_k cc_k]
    have l_k := Lib.hid B3.size
    have B4 := B3.alloc B3.size (.cells #[.string ⟨s1.toArray⟩, .string ⟨p1.toArray⟩, .int .i64 r1, .int .i64 f1, .bool o1, .slice ao_k no_k co_k, .slice ah_k nh_k ch_k, .slice ac_k nc_k cc_k] 28)
    clear B3
    have c_s0_11 := X_s.cell 0 _ rfl
    have fc_s0_11 := X_s.frozen 0
    have c_s1_12 := X_s.cell 1 _ rfl
    have fc_s1_12 := X_s.frozen 1
    have c_s2_13 := X_s.cell 2 _ rfl
    have fc_s2_13 := X_s.frozen 2
    have c_s3_14 := X_s.cell 3 _ rfl
    have fc_s3_14 := X_s.frozen 3
    have c_s4_15 := X_s.cell 4 _ rfl
    have fc_s4_15 := X_s.frozen 4
    have c_s5_16 := X_s.cell 5 _ rfl
    have fc_s5_16 := X_s.frozen 5
    have c_s6_17 := X_s.cell 6 _ rfl
    have fc_s6_17 := X_s.frozen 6
    have c_s7_18 := X_s.cell 7 _ rfl
    have fc_s7_18 := X_s.frozen 7
    have c_k0_19 := X_k.cell 0 _ rfl
    have fc_k0_19 := X_k.frozen 0
    have c_k1_20 := X_k.cell 1 _ rfl
    have fc_k1_20 := X_k.frozen 1
    have c_k2_21 := X_k.cell 2 _ rfl
    have fc_k2_21 := X_k.frozen 2
    have c_k3_22 := X_k.cell 3 _ rfl
    have fc_k3_22 := X_k.frozen 3
    have c_k4_23 := X_k.cell 4 _ rfl
    have fc_k4_23 := X_k.frozen 4
    have c_k5_24 := X_k.cell 5 _ rfl
    have fc_k5_24 := X_k.frozen 5
    have c_k6_25 := X_k.cell 6 _ rfl
    have fc_k6_25 := X_k.frozen 6
    have c_k7_26 := X_k.cell 7 _ rfl
    have fc_k7_26 := X_k.frozen 7
    have hne : (E1 == 0) = false := beq_eq_false_iff_ne.2 hE
    go_wp2_with fail
    have C4 := rhas17_any s p s1 p1 r f r1 f1 o o1 _ _ _ _ _ _ H' G_k x x _ (HS.out.below B4) I_k
    rw [eqSd_yes rfl] at C4
    simp only [stC] at C4
    refine (C4).mono ?_
    rintro e_ w_27 ⟨rfl, b_27⟩
    clear c_s0_11 fc_s0_11 c_s1_12 fc_s1_12 c_s2_13 fc_s2_13 c_s3_14 fc_s3_14 c_s4_15 fc_s4_15 c_s5_16 fc_s5_16 c_s6_17 fc_s6_17 c_s7_18 fc_s7_18 c_k0_19 fc_k0_19 c_k1_20 fc_k1_20 c_k2_21 fc_k2_21 c_k3_22 fc_k3_22 c_k4_23 fc_k4_23 c_k5_24 fc_k5_24 c_k6_25 fc_k6_25 c_k7_26 fc_k7_26
    replace X_s := X_s.below b_27
    replace X_k := X_k.below b_27
    replace I_k := I_k.below b_27
    replace A_k := A_k.trans (Agr.below b_27)
    have B5 := B4.trans (b_27.mono B4.size)
    clear B4
    clear b_27
    go_wp2_with fail
    go_ret
    exact ⟨rfl, B5⟩
  · rw [hX] at C2
    clear hX
    have X_s := SBox.new w 28 #[.string ⟨s.toArray⟩, .string ⟨p.toArray⟩, .int .i64 r, .int .i64 f, .bool o, .slice ao_s no_s co_s, .slice ah_s nh_s ch_s, .slice ac_s nc_s cc_s]
    have l_s := Lib.hid (Below.refl w.heap.size w).size
    have B1 := (Below.refl w.heap.size w).alloc (Below.refl w.heap.size w).size (.cells #[.string ⟨s.toArray⟩, .string ⟨p.toArray⟩, .int .i64 r, .int .i64 f, .bool o, .slice ao_s no_s co_s, .slice ah_s nh_s ch_s, .slice ac_s nc_s cc_s] 28)
    go_enter Try.func8, Try.ntmps8
    go_wp2_with fail
    refine (shown17_any _).mono ?_
    rintro e_ w_1 ⟨rfl, b_1⟩
    replace X_s := X_s.below b_1
    have B2 := B1.trans (b_1.mono B1.size)
    clear B1
    clear b_1
    have c_s0_2 := X_s.cell 0 _ rfl
    have fc_s0_2 := X_s.frozen 0
    have c_s1_3 := X_s.cell 1 _ rfl
    have fc_s1_3 := X_s.frozen 1
    have c_s2_4 := X_s.cell 2 _ rfl
    have fc_s2_4 := X_s.frozen 2
    have c_s3_5 := X_s.cell 3 _ rfl
    have fc_s3_5 := X_s.frozen 3
    have c_s4_6 := X_s.cell 4 _ rfl
    have fc_s4_6 := X_s.frozen 4
    have c_s5_7 := X_s.cell 5 _ rfl
    have fc_s5_7 := X_s.frozen 5
    have c_s6_8 := X_s.cell 6 _ rfl
    have fc_s6_8 := X_s.frozen 6
    have c_s7_9 := X_s.cell 7 _ rfl
    have fc_s7_9 := X_s.frozen 7
    go_wp2_with fail
    refine (C2 _ (HS.out.below B2)).mono ?_
    rintro e_ w_10 ⟨uo_k, uh_k, uc_k, rfl, b_10, G_k, hT⟩
    clear c_s0_2 fc_s0_2 c_s1_3 fc_s1_3 c_s2_4 fc_s2_4 c_s3_5 fc_s3_5 c_s4_6 fc_s4_6 c_s5_7 fc_s5_7 c_s6_8 fc_s6_8 c_s7_9 fc_s7_9
    replace X_s := X_s.below b_10
    have B3 := B2.trans (b_10.mono B2.size)
    clear B2
    clear b_10
    have A_k := agrOf hT
    have HT_k := Lib.hid hT
    clear hT
    have I_k := HT_k.out _ A_k (HS.out.below B3)
    obtain ⟨ao_k, no_k, co_k, ah_k, nh_k, ch_k, ac_k, nc_k, cc_k, rfl, rfl, rfl⟩ := I_k.slices
    replace X_s := X_s.alloc (.cells #[.string ⟨s1.toArray⟩, .string ⟨#[]⟩, .int .i64 r1, .int .i64 f1, .bool o1, .slice ao_k no_k co_k, .slice ah_k nh_k ch_k, .slice ac_k nc_k cc_k] 28)
    replace I_k := I_k.below ((Below.refl _ _).alloc (Nat.le_refl _) (.cells #[.string ⟨s1.toArray⟩, .string ⟨#[]⟩, .int .i64 r1, .int .i64 f1, .bool o1, .slice ao_k no_k co_k, .slice ah_k nh_k ch_k, .slice ac_k nc_k cc_k] 28))
    replace A_k := A_k.trans (Agr.below ((Below.refl _ _).alloc (Nat.le_refl _) (.cells #[.string ⟨s1.toArray⟩, .string ⟨#[]⟩, .int .i64 r1, .int .i64 f1, .bool o1, .slice ao_k no_k co_k, .slice ah_k nh_k ch_k, .slice ac_k nc_k cc_k] 28)))
    have X_k := SBox.new w_10 28 #[.string ⟨s1.toArray⟩, .string ⟨#[]⟩, .int .i64 r1, .int .i64 f1, .bool o1, .slice ao_k no_k co_k, .slice ah_k nh_k ch_k, .slice ac_k nc_k cc_k]
    have l_k := Lib.hid B3.size
    have B4 := B3.alloc B3.size (.cells #[.string ⟨s1.toArray⟩, .string ⟨#[]⟩, .int .i64 r1, .int .i64 f1, .bool o1, .slice ao_k no_k co_k, .slice ah_k nh_k ch_k, .slice ac_k nc_k cc_k] 28)
    clear B3
    have hl0 : no_k = 0 := by rw [← I_k.nums.1.1]; rfl
    have hl1 : nh_k = nh_s + 1 := by rw [← I_k.nums.2.1.1, ← NS.out.2.1.1]; simp
    subst hl0 hl1
    have hcap := I_k.nums.2.1.2.1
    obtain ⟨bb, off, aa, nn, cc, rfl, v0, i0, sh0⟩ := hs_last17 I_k.hi I_k.ho NS.out.2.1.1
    have J0 := Lib.hid i0
    have JS := Lib.hid sh0
    have IK := Lib.hid I_k
    clear i0 sh0
    have j0 := NS.out.2.1.2.2.2
    have j1 : ¬ ((nh_s : Int) + 1 ≤ (nh_s : Int)) := by omega
    have j2 : (nh_s : Int) < (nh_s : Int) + 1 := by omega
    have j4 : wrap64 ((nh_s : Int) + 1) = (nh_s : Int) + 1 := by unfold wrap64; omega
    have j5 : nh_s ≤ ch_k := by omega
    have S_X_s := Lib.hid X_s
    have S_X_k := Lib.hid X_k
    have S_I_k := Lib.hid I_k
    have S_A_k := Lib.hid A_k
    have S_v0 := Lib.hid v0
    have S_B4 := Lib.hid B4
    have c_s0_11 := X_s.cell 0 _ rfl
    have fc_s0_11 := X_s.frozen 0
    have c_s1_12 := X_s.cell 1 _ rfl
    have fc_s1_12 := X_s.frozen 1
    have c_s2_13 := X_s.cell 2 _ rfl
    have fc_s2_13 := X_s.frozen 2
    have c_s3_14 := X_s.cell 3 _ rfl
    have fc_s3_14 := X_s.frozen 3
    have c_s4_15 := X_s.cell 4 _ rfl
    have fc_s4_15 := X_s.frozen 4
    have c_s5_16 := X_s.cell 5 _ rfl
    have fc_s5_16 := X_s.frozen 5
    have c_s6_17 := X_s.cell 6 _ rfl
    have fc_s6_17 := X_s.frozen 6
    have c_s7_18 := X_s.cell 7 _ rfl
    have fc_s7_18 := X_s.frozen 7
    have c_k0_19 := X_k.cell 0 _ rfl
    have fc_k0_19 := X_k.frozen 0
    have c_k1_20 := X_k.cell 1 _ rfl
    have fc_k1_20 := X_k.frozen 1
    have c_k2_21 := X_k.cell 2 _ rfl
    have fc_k2_21 := X_k.frozen 2
    have c_k3_22 := X_k.cell 3 _ rfl
    have fc_k3_22 := X_k.frozen 3
    have c_k4_23 := X_k.cell 4 _ rfl
    have fc_k4_23 := X_k.frozen 4
    have c_k5_24 := X_k.cell 5 _ rfl
    have fc_k5_24 := X_k.frozen 5
    have c_k6_25 := X_k.cell 6 _ rfl
    have fc_k6_25 := X_k.frozen 6
    have c_k7_26 := X_k.cell 7 _ rfl
    have fc_k7_26 := X_k.frozen 7
    go_upto_region 8 with fail
    clear c_s0_11 fc_s0_11 c_s1_12 fc_s1_12 c_s2_13 fc_s2_13 c_s3_14 fc_s3_14 c_s4_15 fc_s4_15 c_s5_16 fc_s5_16 c_s6_17 fc_s6_17 c_s7_18 fc_s7_18 c_k0_19 fc_k0_19 c_k1_20 fc_k1_20 c_k2_21 fc_k2_21 c_k3_22 fc_k3_22 c_k4_23 fc_k4_23 c_k5_24 fc_k5_24 c_k6_25 fc_k6_25 c_k7_26 fc_k7_26
    replace X_s := X_s.alloc (.cells #[.string ⟨s1.toArray⟩, .string ⟨#[]⟩, .int .i64 r1, .int .i64 f1, .bool o1, .slice ao_k 0 co_k, .slice (some ⟨bb, off, none⟩) (nh_s + 1) ch_k, .slice ac_k nc_k cc_k] 28)
    replace X_k := X_k.alloc (.cells #[.string ⟨s1.toArray⟩, .string ⟨#[]⟩, .int .i64 r1, .int .i64 f1, .bool o1, .slice ao_k 0 co_k, .slice (some ⟨bb, off, none⟩) (nh_s + 1) ch_k, .slice ac_k nc_k cc_k] 28)
    replace I_k := I_k.below ((Below.refl _ _).alloc (Nat.le_refl _) (.cells #[.string ⟨s1.toArray⟩, .string ⟨#[]⟩, .int .i64 r1, .int .i64 f1, .bool o1, .slice ao_k 0 co_k, .slice (some ⟨bb, off, none⟩) (nh_s + 1) ch_k, .slice ac_k nc_k cc_k] 28))
    replace A_k := A_k.trans (Agr.below ((Below.refl _ _).alloc (Nat.le_refl _) (.cells #[.string ⟨s1.toArray⟩, .string ⟨#[]⟩, .int .i64 r1, .int .i64 f1, .bool o1, .slice ao_k 0 co_k, .slice (some ⟨bb, off, none⟩) (nh_s + 1) ch_k, .slice ac_k nc_k cc_k] 28)))
    replace v0 := cell_bel ((Below.refl _ _).alloc (Nat.le_refl _) (.cells #[.string ⟨s1.toArray⟩, .string ⟨#[]⟩, .int .i64 r1, .int .i64 f1, .bool o1, .slice ao_k 0 co_k, .slice (some ⟨bb, off, none⟩) (nh_s + 1) ch_k, .slice ac_k nc_k cc_k] 28)) v0
    have X_m := SBox.new (w_10.alloc (.cells #[.string ⟨s1.toArray⟩, .string ⟨#[]⟩, .int .i64 r1, .int .i64 f1, .bool o1, .slice ao_k 0 co_k, .slice (some ⟨bb, off, none⟩) (nh_s + 1) ch_k, .slice ac_k nc_k cc_k] 28)) 28 #[.string ⟨s1.toArray⟩, .string ⟨#[]⟩, .int .i64 r1, .int .i64 f1, .bool o1, .slice ao_k 0 co_k, .slice (some ⟨bb, off, none⟩) (nh_s + 1) ch_k, .slice ac_k nc_k cc_k]
    have l_m := Lib.hid B4.size
    simp only [World.size_alloc] at X_m
    have B5 := B4.alloc B4.size (.cells #[.string ⟨s1.toArray⟩, .string ⟨#[]⟩, .int .i64 r1, .int .i64 f1, .bool o1, .slice ao_k 0 co_k, .slice (some ⟨bb, off, none⟩) (nh_s + 1) ch_k, .slice ac_k nc_k cc_k] 28)
    clear B4
    have c_s0_27 := X_s.cell 0 _ rfl
    have fc_s0_27 := X_s.frozen 0
    have c_s1_28 := X_s.cell 1 _ rfl
    have fc_s1_28 := X_s.frozen 1
    have c_s2_29 := X_s.cell 2 _ rfl
    have fc_s2_29 := X_s.frozen 2
    have c_s3_30 := X_s.cell 3 _ rfl
    have fc_s3_30 := X_s.frozen 3
    have c_s4_31 := X_s.cell 4 _ rfl
    have fc_s4_31 := X_s.frozen 4
    have c_s5_32 := X_s.cell 5 _ rfl
    have fc_s5_32 := X_s.frozen 5
    have c_s6_33 := X_s.cell 6 _ rfl
    have fc_s6_33 := X_s.frozen 6
    have c_s7_34 := X_s.cell 7 _ rfl
    have fc_s7_34 := X_s.frozen 7
    have c_k0_35 := X_k.cell 0 _ rfl
    have fc_k0_35 := X_k.frozen 0
    have c_k1_36 := X_k.cell 1 _ rfl
    have fc_k1_36 := X_k.frozen 1
    have c_k2_37 := X_k.cell 2 _ rfl
    have fc_k2_37 := X_k.frozen 2
    have c_k3_38 := X_k.cell 3 _ rfl
    have fc_k3_38 := X_k.frozen 3
    have c_k4_39 := X_k.cell 4 _ rfl
    have fc_k4_39 := X_k.frozen 4
    have c_k5_40 := X_k.cell 5 _ rfl
    have fc_k5_40 := X_k.frozen 5
    have c_k6_41 := X_k.cell 6 _ rfl
    have fc_k6_41 := X_k.frozen 6
    have c_k7_42 := X_k.cell 7 _ rfl
    have fc_k7_42 := X_k.frozen 7
    have c_m0_43 := X_m.cell 0 _ rfl
    have fc_m0_43 := X_m.frozen 0
    have c_m1_44 := X_m.cell 1 _ rfl
    have fc_m1_44 := X_m.frozen 1
    have c_m2_45 := X_m.cell 2 _ rfl
    have fc_m2_45 := X_m.frozen 2
    have c_m3_46 := X_m.cell 3 _ rfl
    have fc_m3_46 := X_m.frozen 3
    have c_m4_47 := X_m.cell 4 _ rfl
    have fc_m4_47 := X_m.frozen 4
    have c_m5_48 := X_m.cell 5 _ rfl
    have fc_m5_48 := X_m.frozen 5
    have c_m6_49 := X_m.cell 6 _ rfl
    have fc_m6_49 := X_m.frozen 6
    have c_m7_50 := X_m.cell 7 _ rfl
    have fc_m7_50 := X_m.frozen 7
    go_upto_region 9 with fail
    clear c_s0_27 fc_s0_27 c_s1_28 fc_s1_28 c_s2_29 fc_s2_29 c_s3_30 fc_s3_30 c_s4_31 fc_s4_31 c_s5_32 fc_s5_32 c_s6_33 fc_s6_33 c_s7_34 fc_s7_34 c_k0_35 fc_k0_35 c_k1_36 fc_k1_36 c_k2_37 fc_k2_37 c_k3_38 fc_k3_38 c_k4_39 fc_k4_39 c_k5_40 fc_k5_40 c_k6_41 fc_k6_41 c_k7_42 fc_k7_42 c_m0_43 fc_m0_43 c_m1_44 fc_m1_44 c_m2_45 fc_m2_45 c_m3_46 fc_m3_46 c_m4_47 fc_m4_47 c_m5_48 fc_m5_48 c_m6_49 fc_m6_49 c_m7_50 fc_m7_50
    replace X_s := S_X_s.out
    replace X_k := S_X_k.out
    replace I_k := S_I_k.out
    replace A_k := S_A_k.out
    replace v0 := S_v0.out
    have B4 := S_B4.out
    clear S_X_s S_X_k S_I_k S_A_k S_v0 S_B4 X_m B5
    have S_X_s := Lib.hid X_s
    have S_X_k := Lib.hid X_k
    have S_I_k := Lib.hid I_k
    have S_A_k := Lib.hid A_k
    have S_v0 := Lib.hid v0
    have S_B4 := Lib.hid B4
    replace X_s := X_s.alloc (.cells #[.string ⟨s1.toArray⟩, .string ⟨#[]⟩, .int .i64 r1, .int .i64 f1, .bool o1, .slice aa nn cc, .slice (some ⟨bb, off, none⟩) (nh_s + 1) ch_k, .slice ac_k nc_k cc_k] 28)
    replace X_k := X_k.alloc (.cells #[.string ⟨s1.toArray⟩, .string ⟨#[]⟩, .int .i64 r1, .int .i64 f1, .bool o1, .slice aa nn cc, .slice (some ⟨bb, off, none⟩) (nh_s + 1) ch_k, .slice ac_k nc_k cc_k] 28)
    replace I_k := I_k.below ((Below.refl _ _).alloc (Nat.le_refl _) (.cells #[.string ⟨s1.toArray⟩, .string ⟨#[]⟩, .int .i64 r1, .int .i64 f1, .bool o1, .slice aa nn cc, .slice (some ⟨bb, off, none⟩) (nh_s + 1) ch_k, .slice ac_k nc_k cc_k] 28))
    replace A_k := A_k.trans (Agr.below ((Below.refl _ _).alloc (Nat.le_refl _) (.cells #[.string ⟨s1.toArray⟩, .string ⟨#[]⟩, .int .i64 r1, .int .i64 f1, .bool o1, .slice aa nn cc, .slice (some ⟨bb, off, none⟩) (nh_s + 1) ch_k, .slice ac_k nc_k cc_k] 28)))
    replace v0 := cell_bel ((Below.refl _ _).alloc (Nat.le_refl _) (.cells #[.string ⟨s1.toArray⟩, .string ⟨#[]⟩, .int .i64 r1, .int .i64 f1, .bool o1, .slice aa nn cc, .slice (some ⟨bb, off, none⟩) (nh_s + 1) ch_k, .slice ac_k nc_k cc_k] 28)) v0
    have X_m := SBox.new (w_10.alloc (.cells #[.string ⟨s1.toArray⟩, .string ⟨#[]⟩, .int .i64 r1, .int .i64 f1, .bool o1, .slice ao_k 0 co_k, .slice (some ⟨bb, off, none⟩) (nh_s + 1) ch_k, .slice ac_k nc_k cc_k] 28)) 28 #[.string ⟨s1.toArray⟩, .string ⟨#[]⟩, .int .i64 r1, .int .i64 f1, .bool o1, .slice aa nn cc, .slice (some ⟨bb, off, none⟩) (nh_s + 1) ch_k, .slice ac_k nc_k cc_k]
    have l_m := Lib.hid B4.size
    simp only [World.size_alloc] at X_m
    have B6 := B4.alloc B4.size (.cells #[.string ⟨s1.toArray⟩, .string ⟨#[]⟩, .int .i64 r1, .int .i64 f1, .bool o1, .slice aa nn cc, .slice (some ⟨bb, off, none⟩) (nh_s + 1) ch_k, .slice ac_k nc_k cc_k] 28)
    clear B4
    have c_s0_51 := X_s.cell 0 _ rfl
    have fc_s0_51 := X_s.frozen 0
    have c_s1_52 := X_s.cell 1 _ rfl
    have fc_s1_52 := X_s.frozen 1
    have c_s2_53 := X_s.cell 2 _ rfl
    have fc_s2_53 := X_s.frozen 2
    have c_s3_54 := X_s.cell 3 _ rfl
    have fc_s3_54 := X_s.frozen 3
    have c_s4_55 := X_s.cell 4 _ rfl
    have fc_s4_55 := X_s.frozen 4
    have c_s5_56 := X_s.cell 5 _ rfl
    have fc_s5_56 := X_s.frozen 5
    have c_s6_57 := X_s.cell 6 _ rfl
    have fc_s6_57 := X_s.frozen 6
    have c_s7_58 := X_s.cell 7 _ rfl
    have fc_s7_58 := X_s.frozen 7
    have c_k0_59 := X_k.cell 0 _ rfl
    have fc_k0_59 := X_k.frozen 0
    have c_k1_60 := X_k.cell 1 _ rfl
    have fc_k1_60 := X_k.frozen 1
    have c_k2_61 := X_k.cell 2 _ rfl
    have fc_k2_61 := X_k.frozen 2
    have c_k3_62 := X_k.cell 3 _ rfl
    have fc_k3_62 := X_k.frozen 3
    have c_k4_63 := X_k.cell 4 _ rfl
    have fc_k4_63 := X_k.frozen 4
    have c_k5_64 := X_k.cell 5 _ rfl
    have fc_k5_64 := X_k.frozen 5
    have c_k6_65 := X_k.cell 6 _ rfl
    have fc_k6_65 := X_k.frozen 6
    have c_k7_66 := X_k.cell 7 _ rfl
    have fc_k7_66 := X_k.frozen 7
    have c_m0_67 := X_m.cell 0 _ rfl
    have fc_m0_67 := X_m.frozen 0
    have c_m1_68 := X_m.cell 1 _ rfl
    have fc_m1_68 := X_m.frozen 1
    have c_m2_69 := X_m.cell 2 _ rfl
    have fc_m2_69 := X_m.frozen 2
    have c_m3_70 := X_m.cell 3 _ rfl
    have fc_m3_70 := X_m.frozen 3
    have c_m4_71 := X_m.cell 4 _ rfl
    have fc_m4_71 := X_m.frozen 4
    have c_m5_72 := X_m.cell 5 _ rfl
    have fc_m5_72 := X_m.frozen 5
    have c_m6_73 := X_m.cell 6 _ rfl
    have fc_m6_73 := X_m.frozen 6
    have c_m7_74 := X_m.cell 7 _ rfl
    have fc_m7_74 := X_m.frozen 7
    go_upto_region 10 with fail
    clear c_s0_51 fc_s0_51 c_s1_52 fc_s1_52 c_s2_53 fc_s2_53 c_s3_54 fc_s3_54 c_s4_55 fc_s4_55 c_s5_56 fc_s5_56 c_s6_57 fc_s6_57 c_s7_58 fc_s7_58 c_k0_59 fc_k0_59 c_k1_60 fc_k1_60 c_k2_61 fc_k2_61 c_k3_62 fc_k3_62 c_k4_63 fc_k4_63 c_k5_64 fc_k5_64 c_k6_65 fc_k6_65 c_k7_66 fc_k7_66 c_m0_67 fc_m0_67 c_m1_68 fc_m1_68 c_m2_69 fc_m2_69 c_m3_70 fc_m3_70 c_m4_71 fc_m4_71 c_m5_72 fc_m5_72 c_m6_73 fc_m6_73 c_m7_74 fc_m7_74
    replace X_s := S_X_s.out
    replace X_k := S_X_k.out
    replace I_k := S_I_k.out
    replace A_k := S_A_k.out
    replace v0 := S_v0.out
    have B4 := S_B4.out
    clear S_X_s S_X_k S_I_k S_A_k S_v0 S_B4 X_m B6
    replace X_s := X_s.alloc (.cells #[.string ⟨s1.toArray⟩, .string ⟨#[]⟩, .int .i64 r1, .int .i64 f1, .bool o1, .slice aa nn cc, .slice (some ⟨bb, off, none⟩) nh_s ch_k, .slice ac_k nc_k cc_k] 28)
    replace X_k := X_k.alloc (.cells #[.string ⟨s1.toArray⟩, .string ⟨#[]⟩, .int .i64 r1, .int .i64 f1, .bool o1, .slice aa nn cc, .slice (some ⟨bb, off, none⟩) nh_s ch_k, .slice ac_k nc_k cc_k] 28)
    replace I_k := I_k.below ((Below.refl _ _).alloc (Nat.le_refl _) (.cells #[.string ⟨s1.toArray⟩, .string ⟨#[]⟩, .int .i64 r1, .int .i64 f1, .bool o1, .slice aa nn cc, .slice (some ⟨bb, off, none⟩) nh_s ch_k, .slice ac_k nc_k cc_k] 28))
    replace A_k := A_k.trans (Agr.below ((Below.refl _ _).alloc (Nat.le_refl _) (.cells #[.string ⟨s1.toArray⟩, .string ⟨#[]⟩, .int .i64 r1, .int .i64 f1, .bool o1, .slice aa nn cc, .slice (some ⟨bb, off, none⟩) nh_s ch_k, .slice ac_k nc_k cc_k] 28)))
    replace v0 := cell_bel ((Below.refl _ _).alloc (Nat.le_refl _) (.cells #[.string ⟨s1.toArray⟩, .string ⟨#[]⟩, .int .i64 r1, .int .i64 f1, .bool o1, .slice aa nn cc, .slice (some ⟨bb, off, none⟩) nh_s ch_k, .slice ac_k nc_k cc_k] 28)) v0
    have X_m := SBox.new (w_10.alloc (.cells #[.string ⟨s1.toArray⟩, .string ⟨#[]⟩, .int .i64 r1, .int .i64 f1, .bool o1, .slice ao_k 0 co_k, .slice (some ⟨bb, off, none⟩) (nh_s + 1) ch_k, .slice ac_k nc_k cc_k] 28)) 28 #[.string ⟨s1.toArray⟩, .string ⟨#[]⟩, .int .i64 r1, .int .i64 f1, .bool o1, .slice aa nn cc, .slice (some ⟨bb, off, none⟩) nh_s ch_k, .slice ac_k nc_k cc_k]
    have l_m := Lib.hid B4.size
    simp only [World.size_alloc] at X_m
    have B7 := B4.alloc B4.size (.cells #[.string ⟨s1.toArray⟩, .string ⟨#[]⟩, .int .i64 r1, .int .i64 f1, .bool o1, .slice aa nn cc, .slice (some ⟨bb, off, none⟩) nh_s ch_k, .slice ac_k nc_k cc_k] 28)
    clear B4
    have c_s0_75 := X_s.cell 0 _ rfl
    have fc_s0_75 := X_s.frozen 0
    have c_s1_76 := X_s.cell 1 _ rfl
    have fc_s1_76 := X_s.frozen 1
    have c_s2_77 := X_s.cell 2 _ rfl
    have fc_s2_77 := X_s.frozen 2
    have c_s3_78 := X_s.cell 3 _ rfl
    have fc_s3_78 := X_s.frozen 3
    have c_s4_79 := X_s.cell 4 _ rfl
    have fc_s4_79 := X_s.frozen 4
    have c_s5_80 := X_s.cell 5 _ rfl
    have fc_s5_80 := X_s.frozen 5
    have c_s6_81 := X_s.cell 6 _ rfl
    have fc_s6_81 := X_s.frozen 6
    have c_s7_82 := X_s.cell 7 _ rfl
    have fc_s7_82 := X_s.frozen 7
    have c_m0_83 := X_m.cell 0 _ rfl
    have fc_m0_83 := X_m.frozen 0
    have c_m1_84 := X_m.cell 1 _ rfl
    have fc_m1_84 := X_m.frozen 1
    have c_m2_85 := X_m.cell 2 _ rfl
    have fc_m2_85 := X_m.frozen 2
    have c_m3_86 := X_m.cell 3 _ rfl
    have fc_m3_86 := X_m.frozen 3
    have c_m4_87 := X_m.cell 4 _ rfl
    have fc_m4_87 := X_m.frozen 4
    have c_m5_88 := X_m.cell 5 _ rfl
    have fc_m5_88 := X_m.frozen 5
    have c_m6_89 := X_m.cell 6 _ rfl
    have fc_m6_89 := X_m.frozen 6
    have c_m7_90 := X_m.cell 7 _ rfl
    have fc_m7_90 := X_m.frozen 7
    go_wp2_with fail
    have I_m : StIn ((w_10.alloc (.cells #[.string ⟨s1.toArray⟩, .string ⟨#[]⟩, .int .i64 r1, .int .i64 f1, .bool o1, .slice ao_k 0 co_k, .slice (some ⟨bb, off, none⟩) (nh_s + 1) ch_k, .slice ac_k nc_k cc_k] 28)).alloc (.cells #[.string ⟨s1.toArray⟩, .string ⟨#[]⟩, .int .i64 r1, .int .i64 f1, .bool o1, .slice aa nn cc, .slice (some ⟨bb, off, none⟩) nh_s ch_k, .slice ac_k nc_k cc_k] 28)) (.slice aa nn cc) (.slice (some ⟨bb, off, none⟩) nh_s ch_k) (.slice ac_k nc_k cc_k) (G_k.take nh_s) x := ⟨J0.out.below ((Below.refl _ _).alloc (Nat.le_refl _) (.cells #[.string ⟨s1.toArray⟩, .string ⟨#[]⟩, .int .i64 r1, .int .i64 f1, .bool o1, .slice aa nn cc, .slice (some ⟨bb, off, none⟩) nh_s ch_k, .slice ac_k nc_k cc_k] 28)), (hs_take17 I_k.hi I_k.ho NS.out.2.1.1).1, (hs_take17 I_k.hi I_k.ho NS.out.2.1.1).2, I_k.ce, JS.out, shp_some17, I_k.sc⟩
    have C4 := rhas17_any s1 [] s p r1 f1 r f o1 o _ _ _ _ _ _ (G_k.take nh_s) H' x x _ I_m (HS.out.below B7)
    rw [eqSd_yes rfl] at C4
    simp only [stC] at C4
    refine (C4).mono ?_
    rintro e_ w_91 ⟨rfl, b_91⟩
    clear c_s0_75 fc_s0_75 c_s1_76 fc_s1_76 c_s2_77 fc_s2_77 c_s3_78 fc_s3_78 c_s4_79 fc_s4_79 c_s5_80 fc_s5_80 c_s6_81 fc_s6_81 c_s7_82 fc_s7_82 c_m0_83 fc_m0_83 c_m1_84 fc_m1_84 c_m2_85 fc_m2_85 c_m3_86 fc_m3_86 c_m4_87 fc_m4_87 c_m5_88 fc_m5_88 c_m6_89 fc_m6_89 c_m7_90 fc_m7_90
    replace X_s := X_s.below b_91
    replace X_k := X_k.below b_91
    replace X_m := X_m.below b_91
    replace I_k := I_k.below b_91
    replace A_k := A_k.trans (Agr.below b_91)
    replace v0 := cell_bel b_91 v0
    have B8 := B7.trans (b_91.mono B7.size)
    clear B7
    clear b_91
    go_wp2_with fail
    go_ret
    exact ⟨rfl, B8⟩
end Go.Proofs.Ytngllioidfffdaa
