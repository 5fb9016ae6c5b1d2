/-
  StoreAdds: its walk.
-/
import Derived.Test.YtngllioidfffdaaZShown17
import Derived.Test.YtngllioidfffdaaGX
import Derived.Lib.Hide
namespace Go.Proofs.Ytngllioidfffdaa
set_option maxRecDepth 100000
open Go.RowKit
set_option linter.unusedVariables false
set_option linter.unusedSimpArgs false
attribute [local go_sem] ba_size
set_option maxHeartbeats 8000000 in
theorem adds17_walk (s p : List UInt8) (r f : Int) (o : Bool) (vo vh vc : Value) (H' : List Value) (x : Sd) (k t : Int) (a b : List UInt8) (hg : goodW (s, p, r, f, o)) (hsp : s.length ≤ 562949953421312 ∧ p.length ≤ 562949953421312) (w : World) (hS : StIn w vo vh vc H' x) :
    Calls Try.prog 7 #[.agg (stC (s, p, r, f, o) vo vh vc), .agg #[.int .i64 k, .int .i64 t, .string ⟨a.toArray⟩, .string ⟨b.toArray⟩]] w fun e w' => e = .returned (.bool true) ∧ Below w.heap.size w w' := by
  obtain ⟨ao_s, no_s, co_s, ah_s, nh_s, ch_s, ac_s, nc_s, cc_s, rfl, rfl, rfl⟩ := hS.slices
  have HS := Lib.hid hS
  have NS := Lib.hid hS.nums
  clear hS
  have C2 := fun W hS => pput17_any s p r f o (.slice ao_s no_s co_s) (.slice ah_s nh_s ch_s) (.slice ac_s nc_s cc_s) H' x k t a b hg hsp W hS
  have hform := put_form ((s, p, r, f, o), x) (k, t, a, b)
  obtain ⟨s1, p1, r1, f1, o1, X1, E1, h1⟩ : ∃ a' b' c d g X E, putS ((s, p, r, f, o), x) (k, t, a, b) = (((a', b', c, d, g), X), E) := ⟨_, _, _, _, _, _, _, rfl⟩
  rw [h1] at C2 hform
  simp only at hform
  clear h1
  unfold StoRes at C2
  simp only [stC] at C2 ⊢
  rcases hform with ⟨hE, hX⟩ | ⟨rfl, hX⟩
  · rw [hX] at C2
    clear hX
    have X_s := SBox.new w 28 #[.string ⟨s.toArray⟩, .string ⟨p.toArray⟩, .int .i64 r, .int .i64 f, .bool o, .slice ao_s no_s co_s, .slice ah_s nh_s ch_s, .slice ac_s nc_s cc_s]
    have l_s := Lib.hid (Below.refl w.heap.size w).size
    have B1 := (Below.refl w.heap.size w).alloc (Below.refl w.heap.size w).size (.cells #[.string ⟨s.toArray⟩, .string ⟨p.toArray⟩, .int .i64 r, .int .i64 f, .bool o, .slice ao_s no_s co_s, .slice ah_s nh_s ch_s, .slice ac_s nc_s cc_s] 28)
    replace X_s := X_s.alloc (.cells #[.int .i64 k, .int .i64 t, .string ⟨a.toArray⟩, .string ⟨b.toArray⟩] 30)
    have X_x := SBox.new (w.alloc (.cells #[.string ⟨s.toArray⟩, .string ⟨p.toArray⟩, .int .i64 r, .int .i64 f, .bool o, .slice ao_s no_s co_s, .slice ah_s nh_s ch_s, .slice ac_s nc_s cc_s] 28)) 30 #[.int .i64 k, .int .i64 t, .string ⟨a.toArray⟩, .string ⟨b.toArray⟩]
    have l_x := Lib.hid B1.size
    simp only [World.size_alloc] at X_x
    have B2 := B1.alloc B1.size (.cells #[.int .i64 k, .int .i64 t, .string ⟨a.toArray⟩, .string ⟨b.toArray⟩] 30)
    clear B1
    go_enter Try.func7, Try.ntmps7
    go_wp2_with fail
    refine (shown17_any _).mono ?_
    rintro e_ w_1 ⟨rfl, b_1⟩
    replace X_s := X_s.below b_1
    replace X_x := X_x.below b_1
    have B3 := B2.trans (b_1.mono B2.size)
    clear B2
    clear b_1
    have c_s0_2 := X_s.cell 0 _ rfl
    have fc_s0_2 := X_s.frozen 0
    have c_s1_3 := X_s.cell 1 _ rfl
    have fc_s1_3 := X_s.frozen 1
    have c_s2_4 := X_s.cell 2 _ rfl
    have fc_s2_4 := X_s.frozen 2
    have c_s3_5 := X_s.cell 3 _ rfl
    have fc_s3_5 := X_s.frozen 3
    have c_s4_6 := X_s.cell 4 _ rfl
    have fc_s4_6 := X_s.frozen 4
    have c_s5_7 := X_s.cell 5 _ rfl
    have fc_s5_7 := X_s.frozen 5
    have c_s6_8 := X_s.cell 6 _ rfl
    have fc_s6_8 := X_s.frozen 6
    have c_s7_9 := X_s.cell 7 _ rfl
    have fc_s7_9 := X_s.frozen 7
    have c_x0_10 := X_x.cell 0 _ rfl
    have fc_x0_10 := X_x.frozen 0
    have c_x1_11 := X_x.cell 1 _ rfl
    have fc_x1_11 := X_x.frozen 1
    have c_x2_12 := X_x.cell 2 _ rfl
    have fc_x2_12 := X_x.frozen 2
    have c_x3_13 := X_x.cell 3 _ rfl
    have fc_x3_13 := X_x.frozen 3
    go_wp2_with fail
    refine (C2 _ (HS.out.below B3)).mono ?_
    rintro e_ w_14 ⟨uo_k, uh_k, uc_k, rfl, b_14, G_k, hT⟩
    clear c_s0_2 fc_s0_2 c_s1_3 fc_s1_3 c_s2_4 fc_s2_4 c_s3_5 fc_s3_5 c_s4_6 fc_s4_6 c_s5_7 fc_s5_7 c_s6_8 fc_s6_8 c_s7_9 fc_s7_9 c_x0_10 fc_x0_10 c_x1_11 fc_x1_11 c_x2_12 fc_x2_12 c_x3_13 fc_x3_13
    replace X_s := X_s.below b_14
    replace X_x := X_x.below b_14
    have B4 := B3.trans (b_14.mono B3.size)
    clear B3
    clear b_14
    have A_k := agrOf hT
    have HT_k := Lib.hid hT
    clear hT
    have I_k := HT_k.out _ A_k (HS.out.below B4)
    obtain ⟨ao_k, no_k, co_k, ah_k, nh_k, ch_k, ac_k, nc_k, cc_k, rfl, rfl, rfl⟩ := I_k.slices
    replace X_s := X_s.alloc (.cells #[.string ⟨s1.toArray⟩, .string ⟨p1.toArray⟩, .int .i64 r1, .int .i64 f1, .bool o1, .slice ao_k no_k co_k, .slice ah_k nh_k ch_k, .slice ac_k nc_k cc_k] 28)
    replace X_x := X_x.alloc (.cells #[.string ⟨s1.toArray⟩, .string ⟨p1.toArray⟩, .int .i64 r1, .int .i64 f1, .bool o1, .slice ao_k no_k co_k, .slice ah_k nh_k ch_k, .slice ac_k nc_k cc_k] 28)
    replace I_k := I_k.below ((Below.refl _ _).alloc (Nat.le_refl _) (.cells #[.string ⟨s1.toArray⟩, .string ⟨p1.toArray⟩, .int .i64 r1, .int .i64 f1, .bool o1, .slice ao_k no_k co_k, .slice ah_k nh_k ch_k, .slice ac_k nc_k cc_k] 28))
    replace A_k := A_k.trans (Agr.below ((Below.refl _ _).alloc (Nat.le_refl _) (.cells #[.string ⟨s1.toArray⟩, .string ⟨p1.toArray⟩, .int .i64 r1, .int .i64 f1, .bool o1, .slice ao_k no_k co_k, .slice ah_k nh_k ch_k, .slice ac_k nc_k cc_k] 28)))
    have X_k := SBox.new w_14 28 #[.string ⟨s1.toArray⟩, .string ⟨p1.toArray⟩, .int .i64 r1, .int .i64 f1, .bool o1, .slice ao_k no_k co_k, .slice ah_k nh_k ch_k, .slice ac_k nc_k cc_k]
    have l_k := Lib.hid B4.size
    have B5 := B4.alloc B4.size (.cells #[.string ⟨s1.toArray⟩, .string ⟨p1.toArray⟩, .int .i64 r1, .int .i64 f1, .bool o1, .slice ao_k no_k co_k, .slice ah_k nh_k ch_k, .slice ac_k nc_k cc_k] 28)
    clear B4
    have c_s0_15 := X_s.cell 0 _ rfl
    have fc_s0_15 := X_s.frozen 0
    have c_s1_16 := X_s.cell 1 _ rfl
    have fc_s1_16 := X_s.frozen 1
    have c_s2_17 := X_s.cell 2 _ rfl
    have fc_s2_17 := X_s.frozen 2
    have c_s3_18 := X_s.cell 3 _ rfl
    have fc_s3_18 := X_s.frozen 3
    have c_s4_19 := X_s.cell 4 _ rfl
    have fc_s4_19 := X_s.frozen 4
    have c_s5_20 := X_s.cell 5 _ rfl
    have fc_s5_20 := X_s.frozen 5
    have c_s6_21 := X_s.cell 6 _ rfl
    have fc_s6_21 := X_s.frozen 6
    have c_s7_22 := X_s.cell 7 _ rfl
    have fc_s7_22 := X_s.frozen 7
    have c_k0_23 := X_k.cell 0 _ rfl
    have fc_k0_23 := X_k.frozen 0
    have c_k1_24 := X_k.cell 1 _ rfl
    have fc_k1_24 := X_k.frozen 1
    have c_k2_25 := X_k.cell 2 _ rfl
    have fc_k2_25 := X_k.frozen 2
    have c_k3_26 := X_k.cell 3 _ rfl
    have fc_k3_26 := X_k.frozen 3
    have c_k4_27 := X_k.cell 4 _ rfl
    have fc_k4_27 := X_k.frozen 4
    have c_k5_28 := X_k.cell 5 _ rfl
    have fc_k5_28 := X_k.frozen 5
    have c_k6_29 := X_k.cell 6 _ rfl
    have fc_k6_29 := X_k.frozen 6
    have c_k7_30 := X_k.cell 7 _ rfl
    have fc_k7_30 := X_k.frozen 7
    have hne : (E1 == 0) = false := beq_eq_false_iff_ne.2 hE
    go_wp2_with fail
    have C4 := rhas17_any s p s1 p1 r f r1 f1 o o1 _ _ _ _ _ _ H' G_k x x _ (HS.out.below B5) I_k
    rw [eqSd_yes rfl] at C4
    simp only [stC] at C4
    refine (C4).mono ?_
    rintro e_ w_31 ⟨rfl, b_31⟩
    clear c_s0_15 fc_s0_15 c_s1_16 fc_s1_16 c_s2_17 fc_s2_17 c_s3_18 fc_s3_18 c_s4_19 fc_s4_19 c_s5_20 fc_s5_20 c_s6_21 fc_s6_21 c_s7_22 fc_s7_22 c_k0_23 fc_k0_23 c_k1_24 fc_k1_24 c_k2_25 fc_k2_25 c_k3_26 fc_k3_26 c_k4_27 fc_k4_27 c_k5_28 fc_k5_28 c_k6_29 fc_k6_29 c_k7_30 fc_k7_30
    replace X_s := X_s.below b_31
    replace X_x := X_x.below b_31
    replace X_k := X_k.below b_31
    replace I_k := I_k.below b_31
    replace A_k := A_k.trans (Agr.below b_31)
    have B6 := B5.trans (b_31.mono B5.size)
    clear B5
    clear b_31
    go_wp2_with fail
    go_ret
    exact ⟨rfl, B6⟩
  · rw [hX] at C2
    clear hX
    have X_s := SBox.new w 28 #[.string ⟨s.toArray⟩, .string ⟨p.toArray⟩, .int .i64 r, .int .i64 f, .bool o, .slice ao_s no_s co_s, .slice ah_s nh_s ch_s, .slice ac_s nc_s cc_s]
    have l_s := Lib.hid (Below.refl w.heap.size w).size
    have B1 := (Below.refl w.heap.size w).alloc (Below.refl w.heap.size w).size (.cells #[.string ⟨s.toArray⟩, .string ⟨p.toArray⟩, .int .i64 r, .int .i64 f, .bool o, .slice ao_s no_s co_s, .slice ah_s nh_s ch_s, .slice ac_s nc_s cc_s] 28)
    replace X_s := X_s.alloc (.cells #[.int .i64 k, .int .i64 t, .string ⟨a.toArray⟩, .string ⟨b.toArray⟩] 30)
    have X_x := SBox.new (w.alloc (.cells #[.string ⟨s.toArray⟩, .string ⟨p.toArray⟩, .int .i64 r, .int .i64 f, .bool o, .slice ao_s no_s co_s, .slice ah_s nh_s ch_s, .slice ac_s nc_s cc_s] 28)) 30 #[.int .i64 k, .int .i64 t, .string ⟨a.toArray⟩, .string ⟨b.toArray⟩]
    have l_x := Lib.hid B1.size
    simp only [World.size_alloc] at X_x
    have B2 := B1.alloc B1.size (.cells #[.int .i64 k, .int .i64 t, .string ⟨a.toArray⟩, .string ⟨b.toArray⟩] 30)
    clear B1
    go_enter Try.func7, Try.ntmps7
    go_wp2_with fail
    refine (shown17_any _).mono ?_
    rintro e_ w_1 ⟨rfl, b_1⟩
    replace X_s := X_s.below b_1
    replace X_x := X_x.below b_1
    have B3 := B2.trans (b_1.mono B2.size)
    clear B2
    clear b_1
    have c_s0_2 := X_s.cell 0 _ rfl
    have fc_s0_2 := X_s.frozen 0
    have c_s1_3 := X_s.cell 1 _ rfl
    have fc_s1_3 := X_s.frozen 1
    have c_s2_4 := X_s.cell 2 _ rfl
    have fc_s2_4 := X_s.frozen 2
    have c_s3_5 := X_s.cell 3 _ rfl
    have fc_s3_5 := X_s.frozen 3
    have c_s4_6 := X_s.cell 4 _ rfl
    have fc_s4_6 := X_s.frozen 4
    have c_s5_7 := X_s.cell 5 _ rfl
    have fc_s5_7 := X_s.frozen 5
    have c_s6_8 := X_s.cell 6 _ rfl
    have fc_s6_8 := X_s.frozen 6
    have c_s7_9 := X_s.cell 7 _ rfl
    have fc_s7_9 := X_s.frozen 7
    have c_x0_10 := X_x.cell 0 _ rfl
    have fc_x0_10 := X_x.frozen 0
    have c_x1_11 := X_x.cell 1 _ rfl
    have fc_x1_11 := X_x.frozen 1
    have c_x2_12 := X_x.cell 2 _ rfl
    have fc_x2_12 := X_x.frozen 2
    have c_x3_13 := X_x.cell 3 _ rfl
    have fc_x3_13 := X_x.frozen 3
    go_wp2_with fail
    refine (C2 _ (HS.out.below B3)).mono ?_
    rintro e_ w_14 ⟨uo_k, uh_k, uc_k, rfl, b_14, G_k, hT⟩
    clear c_s0_2 fc_s0_2 c_s1_3 fc_s1_3 c_s2_4 fc_s2_4 c_s3_5 fc_s3_5 c_s4_6 fc_s4_6 c_s5_7 fc_s5_7 c_s6_8 fc_s6_8 c_s7_9 fc_s7_9 c_x0_10 fc_x0_10 c_x1_11 fc_x1_11 c_x2_12 fc_x2_12 c_x3_13 fc_x3_13
    replace X_s := X_s.below b_14
    replace X_x := X_x.below b_14
    have B4 := B3.trans (b_14.mono B3.size)
    clear B3
    clear b_14
    have A_k := agrOf hT
    have HT_k := Lib.hid hT
    clear hT
    have I_k := HT_k.out _ A_k (HS.out.below B4)
    obtain ⟨ao_k, no_k, co_k, ah_k, nh_k, ch_k, ac_k, nc_k, cc_k, rfl, rfl, rfl⟩ := I_k.slices
    replace X_s := X_s.alloc (.cells #[.string ⟨s1.toArray⟩, .string ⟨p1.toArray⟩, .int .i64 r1, .int .i64 f1, .bool o1, .slice ao_k no_k co_k, .slice ah_k nh_k ch_k, .slice ac_k nc_k cc_k] 28)
    replace X_x := X_x.alloc (.cells #[.string ⟨s1.toArray⟩, .string ⟨p1.toArray⟩, .int .i64 r1, .int .i64 f1, .bool o1, .slice ao_k no_k co_k, .slice ah_k nh_k ch_k, .slice ac_k nc_k cc_k] 28)
    replace I_k := I_k.below ((Below.refl _ _).alloc (Nat.le_refl _) (.cells #[.string ⟨s1.toArray⟩, .string ⟨p1.toArray⟩, .int .i64 r1, .int .i64 f1, .bool o1, .slice ao_k no_k co_k, .slice ah_k nh_k ch_k, .slice ac_k nc_k cc_k] 28))
    replace A_k := A_k.trans (Agr.below ((Below.refl _ _).alloc (Nat.le_refl _) (.cells #[.string ⟨s1.toArray⟩, .string ⟨p1.toArray⟩, .int .i64 r1, .int .i64 f1, .bool o1, .slice ao_k no_k co_k, .slice ah_k nh_k ch_k, .slice ac_k nc_k cc_k] 28)))
    have X_k := SBox.new w_14 28 #[.string ⟨s1.toArray⟩, .string ⟨p1.toArray⟩, .int .i64 r1, .int .i64 f1, .bool o1, .slice ao_k no_k co_k, .slice ah_k nh_k ch_k, .slice ac_k nc_k cc_k]
    have l_k := Lib.hid B4.size
    have B5 := B4.alloc B4.size (.cells #[.string ⟨s1.toArray⟩, .string ⟨p1.toArray⟩, .int .i64 r1, .int .i64 f1, .bool o1, .slice ao_k no_k co_k, .slice ah_k nh_k ch_k, .slice ac_k nc_k cc_k] 28)
    clear B4
    have hlen : no_k = no_s + 1 := by rw [← I_k.nums.1.1, ← NS.out.1.1]; simp
    subst hlen
    have hcap := I_k.nums.1.2.1
    obtain ⟨_, _, e0, _, _, _, HC⟩ := I_k.op.some_at
    simp only [Value.slice.injEq] at e0
    obtain ⟨rfl, e9, rfl⟩ := e0
    clear e9
    have hk : no_s < (x.1 ++ [(k, t, a, b)]).length := by rw [List.length_append, NS.out.1.1]; exact Nat.lt_succ_self _
    obtain ⟨bb, off, rfl, _, hc⟩ := HC.out no_s hk
    have hel : (x.1 ++ [(k, t, a, b)])[no_s] = (k, t, a, b) := by rw [List.getElem_append_right (by rw [NS.out.1.1]; exact Nat.le_refl _)]; simp [NS.out.1.1]
    simp only [hel] at hc
    clear hel hk
    have v0 := hc 0 _ rfl
    have v1 := hc 1 _ rfl
    have v2 := hc 2 _ rfl
    have v3 := hc 3 _ rfl
    simp only [Nat.add_zero] at v0
    clear hc HC
    have j0 := NS.out.1.2.2.2
    have j1 : ¬ ((no_s : Int) + 1 ≤ (no_s : Int)) := by omega
    have j2 : (no_s : Int) < (no_s : Int) + 1 := by omega
    have j4 : wrap64 ((no_s : Int) + 1) = (no_s : Int) + 1 := by unfold wrap64; omega
    have c_s0_15 := X_s.cell 0 _ rfl
    have fc_s0_15 := X_s.frozen 0
    have c_s1_16 := X_s.cell 1 _ rfl
    have fc_s1_16 := X_s.frozen 1
    have c_s2_17 := X_s.cell 2 _ rfl
    have fc_s2_17 := X_s.frozen 2
    have c_s3_18 := X_s.cell 3 _ rfl
    have fc_s3_18 := X_s.frozen 3
    have c_s4_19 := X_s.cell 4 _ rfl
    have fc_s4_19 := X_s.frozen 4
    have c_s5_20 := X_s.cell 5 _ rfl
    have fc_s5_20 := X_s.frozen 5
    have c_s6_21 := X_s.cell 6 _ rfl
    have fc_s6_21 := X_s.frozen 6
    have c_s7_22 := X_s.cell 7 _ rfl
    have fc_s7_22 := X_s.frozen 7
    have c_x0_23 := X_x.cell 0 _ rfl
    have fc_x0_23 := X_x.frozen 0
    have c_x1_24 := X_x.cell 1 _ rfl
    have fc_x1_24 := X_x.frozen 1
    have c_x2_25 := X_x.cell 2 _ rfl
    have fc_x2_25 := X_x.frozen 2
    have c_x3_26 := X_x.cell 3 _ rfl
    have fc_x3_26 := X_x.frozen 3
    have c_k0_27 := X_k.cell 0 _ rfl
    have fc_k0_27 := X_k.frozen 0
    have c_k1_28 := X_k.cell 1 _ rfl
    have fc_k1_28 := X_k.frozen 1
    have c_k2_29 := X_k.cell 2 _ rfl
    have fc_k2_29 := X_k.frozen 2
    have c_k3_30 := X_k.cell 3 _ rfl
    have fc_k3_30 := X_k.frozen 3
    have c_k4_31 := X_k.cell 4 _ rfl
    have fc_k4_31 := X_k.frozen 4
    have c_k5_32 := X_k.cell 5 _ rfl
    have fc_k5_32 := X_k.frozen 5
    have c_k6_33 := X_k.cell 6 _ rfl
    have fc_k6_33 := X_k.frozen 6
    have c_k7_34 := X_k.cell 7 _ rfl
    have fc_k7_34 := X_k.frozen 7
    go_wp2_with fail
    go_quiet (fail)
    go_upto_region 7 with fail
    generalize hWD : World.drewN _ _ = w_35
    have BD : Below ((w_14.alloc (.cells #[.string ⟨s1.toArray⟩, .string ⟨p1.toArray⟩, .int .i64 r1, .int .i64 f1, .bool o1, .slice (some ⟨bb, off, none⟩) (no_s + 1) co_k, .slice ah_k nh_k ch_k, .slice ac_k nc_k cc_k] 28))).heap.size (w_14.alloc (.cells #[.string ⟨s1.toArray⟩, .string ⟨p1.toArray⟩, .int .i64 r1, .int .i64 f1, .bool o1, .slice (some ⟨bb, off, none⟩) (no_s + 1) co_k, .slice ah_k nh_k ch_k, .slice ac_k nc_k cc_k] 28)) w_35 := by rw [← hWD]; exact below_drewN (Below.refl _ _) _
    clear hWD
    clear c_s0_15 fc_s0_15 c_s1_16 fc_s1_16 c_s2_17 fc_s2_17 c_s3_18 fc_s3_18 c_s4_19 fc_s4_19 c_s5_20 fc_s5_20 c_s6_21 fc_s6_21 c_s7_22 fc_s7_22 c_x0_23 fc_x0_23 c_x1_24 fc_x1_24 c_x2_25 fc_x2_25 c_x3_26 fc_x3_26 c_k0_27 fc_k0_27 c_k1_28 fc_k1_28 c_k2_29 fc_k2_29 c_k3_30 fc_k3_30 c_k4_31 fc_k4_31 c_k5_32 fc_k5_32 c_k6_33 fc_k6_33 c_k7_34 fc_k7_34
    replace X_s := X_s.below BD
    replace X_x := X_x.below BD
    replace X_k := X_k.below BD
    replace I_k := I_k.below BD
    replace A_k := A_k.trans (Agr.below BD)
    have B6 := B5.trans (BD.mono B5.size)
    clear B5
    clear BD
    have S_X_s := Lib.hid X_s
    have S_X_x := Lib.hid X_x
    have S_X_k := Lib.hid X_k
    have S_I_k := Lib.hid I_k
    have S_A_k := Lib.hid A_k
    have S_B6 := Lib.hid B6
    have c_k0_36 := X_k.cell 0 _ rfl
    have fc_k0_36 := X_k.frozen 0
    have c_k1_37 := X_k.cell 1 _ rfl
    have fc_k1_37 := X_k.frozen 1
    have c_k2_38 := X_k.cell 2 _ rfl
    have fc_k2_38 := X_k.frozen 2
    have c_k3_39 := X_k.cell 3 _ rfl
    have fc_k3_39 := X_k.frozen 3
    have c_k4_40 := X_k.cell 4 _ rfl
    have fc_k4_40 := X_k.frozen 4
    have c_k5_41 := X_k.cell 5 _ rfl
    have fc_k5_41 := X_k.frozen 5
    have c_k6_42 := X_k.cell 6 _ rfl
    have fc_k6_42 := X_k.frozen 6
    have c_k7_43 := X_k.cell 7 _ rfl
    have fc_k7_43 := X_k.frozen 7
    go_upto_region 8 with fail
    clear c_k0_36 fc_k0_36 c_k1_37 fc_k1_37 c_k2_38 fc_k2_38 c_k3_39 fc_k3_39 c_k4_40 fc_k4_40 c_k5_41 fc_k5_41 c_k6_42 fc_k6_42 c_k7_43 fc_k7_43
    replace X_s := X_s.alloc (.cells #[.string ⟨s1.toArray⟩, .string ⟨p1.toArray⟩, .int .i64 r1, .int .i64 f1, .bool o1, .slice (some ⟨bb, off, none⟩) (no_s + 1) co_k, .slice ah_k nh_k ch_k, .slice ac_k nc_k cc_k] 28)
    replace X_x := X_x.alloc (.cells #[.string ⟨s1.toArray⟩, .string ⟨p1.toArray⟩, .int .i64 r1, .int .i64 f1, .bool o1, .slice (some ⟨bb, off, none⟩) (no_s + 1) co_k, .slice ah_k nh_k ch_k, .slice ac_k nc_k cc_k] 28)
    replace X_k := X_k.alloc (.cells #[.string ⟨s1.toArray⟩, .string ⟨p1.toArray⟩, .int .i64 r1, .int .i64 f1, .bool o1, .slice (some ⟨bb, off, none⟩) (no_s + 1) co_k, .slice ah_k nh_k ch_k, .slice ac_k nc_k cc_k] 28)
    replace I_k := I_k.below ((Below.refl _ _).alloc (Nat.le_refl _) (.cells #[.string ⟨s1.toArray⟩, .string ⟨p1.toArray⟩, .int .i64 r1, .int .i64 f1, .bool o1, .slice (some ⟨bb, off, none⟩) (no_s + 1) co_k, .slice ah_k nh_k ch_k, .slice ac_k nc_k cc_k] 28))
    replace A_k := A_k.trans (Agr.below ((Below.refl _ _).alloc (Nat.le_refl _) (.cells #[.string ⟨s1.toArray⟩, .string ⟨p1.toArray⟩, .int .i64 r1, .int .i64 f1, .bool o1, .slice (some ⟨bb, off, none⟩) (no_s + 1) co_k, .slice ah_k nh_k ch_k, .slice ac_k nc_k cc_k] 28)))
    have X_m := SBox.new w_35 28 #[.string ⟨s1.toArray⟩, .string ⟨p1.toArray⟩, .int .i64 r1, .int .i64 f1, .bool o1, .slice (some ⟨bb, off, none⟩) (no_s + 1) co_k, .slice ah_k nh_k ch_k, .slice ac_k nc_k cc_k]
    have l_m := Lib.hid B6.size
    have B7 := B6.alloc B6.size (.cells #[.string ⟨s1.toArray⟩, .string ⟨p1.toArray⟩, .int .i64 r1, .int .i64 f1, .bool o1, .slice (some ⟨bb, off, none⟩) (no_s + 1) co_k, .slice ah_k nh_k ch_k, .slice ac_k nc_k cc_k] 28)
    clear B6
    have c_s0_44 := X_s.cell 0 _ rfl
    have fc_s0_44 := X_s.frozen 0
    have c_s1_45 := X_s.cell 1 _ rfl
    have fc_s1_45 := X_s.frozen 1
    have c_s2_46 := X_s.cell 2 _ rfl
    have fc_s2_46 := X_s.frozen 2
    have c_s3_47 := X_s.cell 3 _ rfl
    have fc_s3_47 := X_s.frozen 3
    have c_s4_48 := X_s.cell 4 _ rfl
    have fc_s4_48 := X_s.frozen 4
    have c_s5_49 := X_s.cell 5 _ rfl
    have fc_s5_49 := X_s.frozen 5
    have c_s6_50 := X_s.cell 6 _ rfl
    have fc_s6_50 := X_s.frozen 6
    have c_s7_51 := X_s.cell 7 _ rfl
    have fc_s7_51 := X_s.frozen 7
    have c_x0_52 := X_x.cell 0 _ rfl
    have fc_x0_52 := X_x.frozen 0
    have c_x1_53 := X_x.cell 1 _ rfl
    have fc_x1_53 := X_x.frozen 1
    have c_x2_54 := X_x.cell 2 _ rfl
    have fc_x2_54 := X_x.frozen 2
    have c_x3_55 := X_x.cell 3 _ rfl
    have fc_x3_55 := X_x.frozen 3
    have c_k0_56 := X_k.cell 0 _ rfl
    have fc_k0_56 := X_k.frozen 0
    have c_k1_57 := X_k.cell 1 _ rfl
    have fc_k1_57 := X_k.frozen 1
    have c_k2_58 := X_k.cell 2 _ rfl
    have fc_k2_58 := X_k.frozen 2
    have c_k3_59 := X_k.cell 3 _ rfl
    have fc_k3_59 := X_k.frozen 3
    have c_k4_60 := X_k.cell 4 _ rfl
    have fc_k4_60 := X_k.frozen 4
    have c_k5_61 := X_k.cell 5 _ rfl
    have fc_k5_61 := X_k.frozen 5
    have c_k6_62 := X_k.cell 6 _ rfl
    have fc_k6_62 := X_k.frozen 6
    have c_k7_63 := X_k.cell 7 _ rfl
    have fc_k7_63 := X_k.frozen 7
    have c_m0_64 := X_m.cell 0 _ rfl
    have fc_m0_64 := X_m.frozen 0
    have c_m1_65 := X_m.cell 1 _ rfl
    have fc_m1_65 := X_m.frozen 1
    have c_m2_66 := X_m.cell 2 _ rfl
    have fc_m2_66 := X_m.frozen 2
    have c_m3_67 := X_m.cell 3 _ rfl
    have fc_m3_67 := X_m.frozen 3
    have c_m4_68 := X_m.cell 4 _ rfl
    have fc_m4_68 := X_m.frozen 4
    have c_m5_69 := X_m.cell 5 _ rfl
    have fc_m5_69 := X_m.frozen 5
    have c_m6_70 := X_m.cell 6 _ rfl
    have fc_m6_70 := X_m.frozen 6
    have c_m7_71 := X_m.cell 7 _ rfl
    have fc_m7_71 := X_m.frozen 7
    go_upto_region 9 with fail
    clear c_s0_44 fc_s0_44 c_s1_45 fc_s1_45 c_s2_46 fc_s2_46 c_s3_47 fc_s3_47 c_s4_48 fc_s4_48 c_s5_49 fc_s5_49 c_s6_50 fc_s6_50 c_s7_51 fc_s7_51 c_x0_52 fc_x0_52 c_x1_53 fc_x1_53 c_x2_54 fc_x2_54 c_x3_55 fc_x3_55 c_k0_56 fc_k0_56 c_k1_57 fc_k1_57 c_k2_58 fc_k2_58 c_k3_59 fc_k3_59 c_k4_60 fc_k4_60 c_k5_61 fc_k5_61 c_k6_62 fc_k6_62 c_k7_63 fc_k7_63 c_m0_64 fc_m0_64 c_m1_65 fc_m1_65 c_m2_66 fc_m2_66 c_m3_67 fc_m3_67 c_m4_68 fc_m4_68 c_m5_69 fc_m5_69 c_m6_70 fc_m6_70 c_m7_71 fc_m7_71
    replace X_s := S_X_s.out
    replace X_x := S_X_x.out
    replace X_k := S_X_k.out
    replace I_k := S_I_k.out
    replace A_k := S_A_k.out
    have B6 := S_B6.out
    clear S_X_s S_X_x S_X_k S_I_k S_A_k S_B6 X_m B7
    replace X_s := X_s.alloc (.cells #[.string ⟨s1.toArray⟩, .string ⟨p1.toArray⟩, .int .i64 r1, .int .i64 f1, .bool o1, .slice (some ⟨bb, off, none⟩) no_s co_k, .slice ah_k nh_k ch_k, .slice ac_k nc_k cc_k] 28)
    replace X_x := X_x.alloc (.cells #[.string ⟨s1.toArray⟩, .string ⟨p1.toArray⟩, .int .i64 r1, .int .i64 f1, .bool o1, .slice (some ⟨bb, off, none⟩) no_s co_k, .slice ah_k nh_k ch_k, .slice ac_k nc_k cc_k] 28)
    replace X_k := X_k.alloc (.cells #[.string ⟨s1.toArray⟩, .string ⟨p1.toArray⟩, .int .i64 r1, .int .i64 f1, .bool o1, .slice (some ⟨bb, off, none⟩) no_s co_k, .slice ah_k nh_k ch_k, .slice ac_k nc_k cc_k] 28)
    replace I_k := I_k.below ((Below.refl _ _).alloc (Nat.le_refl _) (.cells #[.string ⟨s1.toArray⟩, .string ⟨p1.toArray⟩, .int .i64 r1, .int .i64 f1, .bool o1, .slice (some ⟨bb, off, none⟩) no_s co_k, .slice ah_k nh_k ch_k, .slice ac_k nc_k cc_k] 28))
    replace A_k := A_k.trans (Agr.below ((Below.refl _ _).alloc (Nat.le_refl _) (.cells #[.string ⟨s1.toArray⟩, .string ⟨p1.toArray⟩, .int .i64 r1, .int .i64 f1, .bool o1, .slice (some ⟨bb, off, none⟩) no_s co_k, .slice ah_k nh_k ch_k, .slice ac_k nc_k cc_k] 28)))
    have X_m := SBox.new w_35 28 #[.string ⟨s1.toArray⟩, .string ⟨p1.toArray⟩, .int .i64 r1, .int .i64 f1, .bool o1, .slice (some ⟨bb, off, none⟩) no_s co_k, .slice ah_k nh_k ch_k, .slice ac_k nc_k cc_k]
    have l_m := Lib.hid B6.size
    have B8 := B6.alloc B6.size (.cells #[.string ⟨s1.toArray⟩, .string ⟨p1.toArray⟩, .int .i64 r1, .int .i64 f1, .bool o1, .slice (some ⟨bb, off, none⟩) no_s co_k, .slice ah_k nh_k ch_k, .slice ac_k nc_k cc_k] 28)
    clear B6
    have c_s0_72 := X_s.cell 0 _ rfl
    have fc_s0_72 := X_s.frozen 0
    have c_s1_73 := X_s.cell 1 _ rfl
    have fc_s1_73 := X_s.frozen 1
    have c_s2_74 := X_s.cell 2 _ rfl
    have fc_s2_74 := X_s.frozen 2
    have c_s3_75 := X_s.cell 3 _ rfl
    have fc_s3_75 := X_s.frozen 3
    have c_s4_76 := X_s.cell 4 _ rfl
    have fc_s4_76 := X_s.frozen 4
    have c_s5_77 := X_s.cell 5 _ rfl
    have fc_s5_77 := X_s.frozen 5
    have c_s6_78 := X_s.cell 6 _ rfl
    have fc_s6_78 := X_s.frozen 6
    have c_s7_79 := X_s.cell 7 _ rfl
    have fc_s7_79 := X_s.frozen 7
    have c_m0_80 := X_m.cell 0 _ rfl
    have fc_m0_80 := X_m.frozen 0
    have c_m1_81 := X_m.cell 1 _ rfl
    have fc_m1_81 := X_m.frozen 1
    have c_m2_82 := X_m.cell 2 _ rfl
    have fc_m2_82 := X_m.frozen 2
    have c_m3_83 := X_m.cell 3 _ rfl
    have fc_m3_83 := X_m.frozen 3
    have c_m4_84 := X_m.cell 4 _ rfl
    have fc_m4_84 := X_m.frozen 4
    have c_m5_85 := X_m.cell 5 _ rfl
    have fc_m5_85 := X_m.frozen 5
    have c_m6_86 := X_m.cell 6 _ rfl
    have fc_m6_86 := X_m.frozen 6
    have c_m7_87 := X_m.cell 7 _ rfl
    have fc_m7_87 := X_m.frozen 7
    go_wp2_with fail
    have I_m : StIn (w_35.alloc (.cells #[.string ⟨s1.toArray⟩, .string ⟨p1.toArray⟩, .int .i64 r1, .int .i64 f1, .bool o1, .slice (some ⟨bb, off, none⟩) no_s co_k, .slice ah_k nh_k ch_k, .slice ac_k nc_k cc_k] 28)) (.slice (some ⟨bb, off, none⟩) no_s co_k) (.slice ah_k nh_k ch_k) (.slice ac_k nc_k cc_k) G_k x := ⟨take_snoc17 I_k.op NS.out.1.1, I_k.hi, I_k.ho, I_k.ce, shp_some17, I_k.sh, I_k.sc⟩
    have C4 := rhas17_any s1 p1 s p r1 f1 r f o1 o _ _ _ _ _ _ G_k H' x x _ I_m (HS.out.below B8)
    rw [eqSd_yes rfl] at C4
    simp only [stC] at C4
    refine (C4).mono ?_
    rintro e_ w_88 ⟨rfl, b_88⟩
    clear c_s0_72 fc_s0_72 c_s1_73 fc_s1_73 c_s2_74 fc_s2_74 c_s3_75 fc_s3_75 c_s4_76 fc_s4_76 c_s5_77 fc_s5_77 c_s6_78 fc_s6_78 c_s7_79 fc_s7_79 c_m0_80 fc_m0_80 c_m1_81 fc_m1_81 c_m2_82 fc_m2_82 c_m3_83 fc_m3_83 c_m4_84 fc_m4_84 c_m5_85 fc_m5_85 c_m6_86 fc_m6_86 c_m7_87 fc_m7_87
    replace X_s := X_s.below b_88
    replace X_x := X_x.below b_88
    replace X_k := X_k.below b_88
    replace X_m := X_m.below b_88
    replace I_k := I_k.below b_88
    replace A_k := A_k.trans (Agr.below b_88)
    have B9 := B8.trans (b_88.mono B8.size)
    clear B8
    clear b_88
    go_wp2_with fail
    go_ret
    exact ⟨rfl, B9⟩
end Go.Proofs.Ytngllioidfffdaa
