/-
  The walk of TapeActs.
-/
import Derived.Test.YtlaidbaghjlpfaaGU
import Derived.Test.YtlaidbaghjlpfaaZUseR16
import Derived.Test.YtlaidbaghjlpfaaGC
namespace Go.Proofs.Ytlaidbaghjlpfaa
set_option maxRecDepth 100000
open Go.RowKit
set_option linter.unusedVariables false
attribute [local go_sem] ba_size farW_cell
set_option maxHeartbeats 16000000 in
theorem acts16_walk (s p rec S : List UInt8) (r f n : Int) (o : Bool) (hg : goodT (s, p, r, f, o)) (hl : rec.length ≤ 274877906944) (hS : S.length ≤ 274877906944) (w : World) : Calls Try.prog 3 #[.agg #[.string ⟨s.toArray⟩, .string ⟨p.toArray⟩, .int .i64 r, .int .i64 f, .bool o, .string ⟨rec.toArray⟩, .int .i64 n, .string ⟨S.toArray⟩]] w fun e w' => e = .returned (.bool true) ∧ Below w.heap.size w w' := by
  obtain ⟨⟨⟨s1, p1, r1, f1, o1⟩, e1⟩, h1⟩ : ∃ x, newT n = x := ⟨_, rfl⟩
  have P1 := Lib.hid (fun W => pn16 n h1 W)
  have R1 := Lib.hid (fun W => rn16 n h1 W)
  obtain ⟨⟨⟨s2, p2, r2, f2, o2⟩, e2⟩, h2⟩ : ∃ x, writeT (s, p, r, f, o) rec = x := ⟨_, rfl⟩
  have P2 := Lib.hid (fun W => pw16 hg (by omega) h2 W)
  have R2 := Lib.hid (fun W => rw16 hg (by omega) h2 W)
  obtain ⟨⟨⟨s3, p3, r3, f3, o3⟩, e3⟩, h3⟩ : ∃ x, syncT (s, p, r, f, o) = x := ⟨_, rfl⟩
  have P3 := Lib.hid (fun W => ps16 hg h3 W)
  have R3 := Lib.hid (fun W => rs16 hg h3 W)
  obtain ⟨⟨s4, p4, r4, f4, o4⟩, h4⟩ : ∃ x, armT (s, p, r, f, o) n = x := ⟨_, rfl⟩
  have P4 := Lib.hid (fun W => pa16 h4 W)
  have R4 := Lib.hid (fun W => ra16 h4 W)
  obtain ⟨⟨s5, p5, r5, f5, o5⟩, h5⟩ : ∃ x, crashT (s, p, r, f, o) n = x := ⟨_, rfl⟩
  have P5 := Lib.hid (fun W => pc16 hg h5 W)
  have R5 := Lib.hid (fun W => rc16 hg h5 W)
  have hq1 := (Lm.scan_parts (s ++ p)).2.1
  have hq2 := Lm.recs_few (s ++ p)
  rw [List.length_append] at hq2
  have hq3 := (Lm.scan_parts S).2.1
  have hq4 := Lm.recs_few S
  have hg5 := hg.2.2.1
  have hg6 := hg.2.2.2
  simp only at hg5 hg6
  obtain ⟨Q, hQ⟩ : ∃ x, readT (s, p, r, f, o) = x := ⟨_, rfl⟩
  have P6 := Lib.hid (fun W => pr16 Q hg hQ W)
  have R6 := Lib.hid (fun W => rr16 Q hg hQ W)
  have e6 : Lm.recsL (s ++ p) = Q := hQ
  rw [e6] at hq1 hq2
  have P7 := fun W => psc16 (s := S) (by omega) W
  have R7 := fun W => rsc16 (s := S) (by omega) W
  obtain ⟨L, hL⟩ : ∃ x, Lm.recsL S = x := ⟨_, rfl⟩
  simp only [hL] at P7 R7 hq3 hq4
  obtain ⟨m, hm⟩ : ∃ x, (Lm.body L).length = x := ⟨_, rfl⟩
  simp only [hm] at P7 R7
  have HQ1 := Lib.hid hq1
  have HQ3 := Lib.hid hq3
  have hq5 : Q.length ≤ 140737488351232 := by omega
  have hq6 : L.length ≤ 140737488351232 := by omega
  clear h1 h2 h3 h4 h5 hq1 hq2 hq3 hq4 hQ e6 hL hm hg hg5 hg6
  have X_w := (SBox.new w 25 #[.string ⟨s.toArray⟩, .string ⟨p.toArray⟩, .int .i64 r, .int .i64 f, .bool o, .string ⟨rec.toArray⟩, .int .i64 n, .string ⟨S.toArray⟩]).alloc (.cells #[.string ⟨s.toArray⟩, .string ⟨p.toArray⟩, .int .i64 r, .int .i64 f, .bool o] 23)
  have X_t := sbox2 w (.cells #[.string ⟨s.toArray⟩, .string ⟨p.toArray⟩, .int .i64 r, .int .i64 f, .bool o, .string ⟨rec.toArray⟩, .int .i64 n, .string ⟨S.toArray⟩] 25) 23 #[.string ⟨s.toArray⟩, .string ⟨p.toArray⟩, .int .i64 r, .int .i64 f, .bool o]
  have BB := bel2 w (.cells #[.string ⟨s.toArray⟩, .string ⟨p.toArray⟩, .int .i64 r, .int .i64 f, .bool o, .string ⟨rec.toArray⟩, .int .i64 n, .string ⟨S.toArray⟩] 25) (.cells #[.string ⟨s.toArray⟩, .string ⟨p.toArray⟩, .int .i64 r, .int .i64 f, .bool o] 23)
  have c_w0_1 := X_w.cell 0 _ rfl
  have fc_w0_1 := X_w.frozen 0
  have c_w1_2 := X_w.cell 1 _ rfl
  have fc_w1_2 := X_w.frozen 1
  have c_w2_3 := X_w.cell 2 _ rfl
  have fc_w2_3 := X_w.frozen 2
  have c_w3_4 := X_w.cell 3 _ rfl
  have fc_w3_4 := X_w.frozen 3
  have c_w4_5 := X_w.cell 4 _ rfl
  have fc_w4_5 := X_w.frozen 4
  have c_w5_6 := X_w.cell 5 _ rfl
  have fc_w5_6 := X_w.frozen 5
  have c_w6_7 := X_w.cell 6 _ rfl
  have fc_w6_7 := X_w.frozen 6
  have c_w7_8 := X_w.cell 7 _ rfl
  have fc_w7_8 := X_w.frozen 7
  have c_t0_9 := X_t.cell 0 _ rfl
  have fc_t0_9 := X_t.frozen 0
  have c_t1_10 := X_t.cell 1 _ rfl
  have fc_t1_10 := X_t.frozen 1
  have c_t2_11 := X_t.cell 2 _ rfl
  have fc_t2_11 := X_t.frozen 2
  have c_t3_12 := X_t.cell 3 _ rfl
  have fc_t3_12 := X_t.frozen 3
  have c_t4_13 := X_t.cell 4 _ rfl
  have fc_t4_13 := X_t.frozen 4
  go_enter Try.func3, Try.ntmps3
  go_wp2_with fail
  refine (shown16_any _).mono ?_
  rintro e w_14 ⟨rfl, b_14⟩
  clear c_w0_1 fc_w0_1 c_w1_2 fc_w1_2 c_w2_3 fc_w2_3 c_w3_4 fc_w3_4 c_w4_5 fc_w4_5 c_w5_6 fc_w5_6 c_w6_7 fc_w6_7 c_w7_8 fc_w7_8 c_t0_9 fc_t0_9 c_t1_10 fc_t1_10 c_t2_11 fc_t2_11 c_t3_12 fc_t3_12 c_t4_13 fc_t4_13
  replace X_w := X_w.below b_14
  replace X_t := X_t.below b_14
  have B1 := BB.trans (b_14.mono BB.size)
  clear BB
  clear b_14
  clear X_w
  have c_t0_15 := X_t.cell 0 _ rfl
  have fc_t0_15 := X_t.frozen 0
  have c_t1_16 := X_t.cell 1 _ rfl
  have fc_t1_16 := X_t.frozen 1
  have c_t2_17 := X_t.cell 2 _ rfl
  have fc_t2_17 := X_t.frozen 2
  have c_t3_18 := X_t.cell 3 _ rfl
  have fc_t3_18 := X_t.frozen 3
  have c_t4_19 := X_t.cell 4 _ rfl
  have fc_t4_19 := X_t.frozen 4
  go_wp2_with fail
  refine (P1.out _).mono ?_
  rintro e w_20 ⟨rfl, b_20⟩
  clear c_t0_15 fc_t0_15 c_t1_16 fc_t1_16 c_t2_17 fc_t2_17 c_t3_18 fc_t3_18 c_t4_19 fc_t4_19
  replace X_t := X_t.below b_20
  have B2 := B1.trans (b_20.mono B1.size)
  clear B1
  clear b_20
  replace X_t := X_t.alloc (.cells #[.string ⟨s1.toArray⟩, .string ⟨p1.toArray⟩, .int .i64 r1, .int .i64 f1, .bool o1] 23)
  have X_p1 := SBox.new w_20 23 #[.string ⟨s1.toArray⟩, .string ⟨p1.toArray⟩, .int .i64 r1, .int .i64 f1, .bool o1]
  have l_p1 := B2.size
  have B3 := B2.alloc B2.size (.cells #[.string ⟨s1.toArray⟩, .string ⟨p1.toArray⟩, .int .i64 r1, .int .i64 f1, .bool o1] 23)
  clear B2
  have c_t0_21 := X_t.cell 0 _ rfl
  have fc_t0_21 := X_t.frozen 0
  have c_t1_22 := X_t.cell 1 _ rfl
  have fc_t1_22 := X_t.frozen 1
  have c_t2_23 := X_t.cell 2 _ rfl
  have fc_t2_23 := X_t.frozen 2
  have c_t3_24 := X_t.cell 3 _ rfl
  have fc_t3_24 := X_t.frozen 3
  have c_t4_25 := X_t.cell 4 _ rfl
  have fc_t4_25 := X_t.frozen 4
  go_wp2_with fail
  refine (R1.out _).mono ?_
  rintro e w_26 ⟨rfl, b_26⟩
  clear c_t0_21 fc_t0_21 c_t1_22 fc_t1_22 c_t2_23 fc_t2_23 c_t3_24 fc_t3_24 c_t4_25 fc_t4_25
  replace X_t := X_t.below b_26
  replace X_p1 := X_p1.below b_26
  have B4 := B3.trans (b_26.mono B3.size)
  clear B3
  clear b_26
  replace X_t := X_t.alloc (.cells #[.string ⟨s1.toArray⟩, .string ⟨p1.toArray⟩, .int .i64 r1, .int .i64 f1, .bool o1] 23)
  replace X_p1 := X_p1.alloc (.cells #[.string ⟨s1.toArray⟩, .string ⟨p1.toArray⟩, .int .i64 r1, .int .i64 f1, .bool o1] 23)
  have X_r1 := SBox.new w_26 23 #[.string ⟨s1.toArray⟩, .string ⟨p1.toArray⟩, .int .i64 r1, .int .i64 f1, .bool o1]
  have l_r1 := B4.size
  have B5 := B4.alloc B4.size (.cells #[.string ⟨s1.toArray⟩, .string ⟨p1.toArray⟩, .int .i64 r1, .int .i64 f1, .bool o1] 23)
  clear B4
  have c_t0_27 := X_t.cell 0 _ rfl
  have fc_t0_27 := X_t.frozen 0
  have c_t1_28 := X_t.cell 1 _ rfl
  have fc_t1_28 := X_t.frozen 1
  have c_t2_29 := X_t.cell 2 _ rfl
  have fc_t2_29 := X_t.frozen 2
  have c_t3_30 := X_t.cell 3 _ rfl
  have fc_t3_30 := X_t.frozen 3
  have c_t4_31 := X_t.cell 4 _ rfl
  have fc_t4_31 := X_t.frozen 4
  go_wp2_with fail
  refine (P2.out _).mono ?_
  rintro e w_32 ⟨rfl, b_32⟩
  clear c_t0_27 fc_t0_27 c_t1_28 fc_t1_28 c_t2_29 fc_t2_29 c_t3_30 fc_t3_30 c_t4_31 fc_t4_31
  replace X_t := X_t.below b_32
  replace X_p1 := X_p1.below b_32
  replace X_r1 := X_r1.below b_32
  have B6 := B5.trans (b_32.mono B5.size)
  clear B5
  clear b_32
  replace X_t := X_t.alloc (.cells #[.string ⟨s2.toArray⟩, .string ⟨p2.toArray⟩, .int .i64 r2, .int .i64 f2, .bool o2] 23)
  replace X_p1 := X_p1.alloc (.cells #[.string ⟨s2.toArray⟩, .string ⟨p2.toArray⟩, .int .i64 r2, .int .i64 f2, .bool o2] 23)
  replace X_r1 := X_r1.alloc (.cells #[.string ⟨s2.toArray⟩, .string ⟨p2.toArray⟩, .int .i64 r2, .int .i64 f2, .bool o2] 23)
  have X_p2 := SBox.new w_32 23 #[.string ⟨s2.toArray⟩, .string ⟨p2.toArray⟩, .int .i64 r2, .int .i64 f2, .bool o2]
  have l_p2 := B6.size
  have B7 := B6.alloc B6.size (.cells #[.string ⟨s2.toArray⟩, .string ⟨p2.toArray⟩, .int .i64 r2, .int .i64 f2, .bool o2] 23)
  clear B6
  have c_t0_33 := X_t.cell 0 _ rfl
  have fc_t0_33 := X_t.frozen 0
  have c_t1_34 := X_t.cell 1 _ rfl
  have fc_t1_34 := X_t.frozen 1
  have c_t2_35 := X_t.cell 2 _ rfl
  have fc_t2_35 := X_t.frozen 2
  have c_t3_36 := X_t.cell 3 _ rfl
  have fc_t3_36 := X_t.frozen 3
  have c_t4_37 := X_t.cell 4 _ rfl
  have fc_t4_37 := X_t.frozen 4
  go_wp2_with fail
  refine (R2.out _).mono ?_
  rintro e w_38 ⟨rfl, b_38⟩
  clear c_t0_33 fc_t0_33 c_t1_34 fc_t1_34 c_t2_35 fc_t2_35 c_t3_36 fc_t3_36 c_t4_37 fc_t4_37
  replace X_t := X_t.below b_38
  replace X_p1 := X_p1.below b_38
  replace X_r1 := X_r1.below b_38
  replace X_p2 := X_p2.below b_38
  have B8 := B7.trans (b_38.mono B7.size)
  clear B7
  clear b_38
  replace X_t := X_t.alloc (.cells #[.string ⟨s2.toArray⟩, .string ⟨p2.toArray⟩, .int .i64 r2, .int .i64 f2, .bool o2] 23)
  replace X_p1 := X_p1.alloc (.cells #[.string ⟨s2.toArray⟩, .string ⟨p2.toArray⟩, .int .i64 r2, .int .i64 f2, .bool o2] 23)
  replace X_r1 := X_r1.alloc (.cells #[.string ⟨s2.toArray⟩, .string ⟨p2.toArray⟩, .int .i64 r2, .int .i64 f2, .bool o2] 23)
  replace X_p2 := X_p2.alloc (.cells #[.string ⟨s2.toArray⟩, .string ⟨p2.toArray⟩, .int .i64 r2, .int .i64 f2, .bool o2] 23)
  have X_r2 := SBox.new w_38 23 #[.string ⟨s2.toArray⟩, .string ⟨p2.toArray⟩, .int .i64 r2, .int .i64 f2, .bool o2]
  have l_r2 := B8.size
  have B9 := B8.alloc B8.size (.cells #[.string ⟨s2.toArray⟩, .string ⟨p2.toArray⟩, .int .i64 r2, .int .i64 f2, .bool o2] 23)
  clear B8
  have c_t0_39 := X_t.cell 0 _ rfl
  have fc_t0_39 := X_t.frozen 0
  have c_t1_40 := X_t.cell 1 _ rfl
  have fc_t1_40 := X_t.frozen 1
  have c_t2_41 := X_t.cell 2 _ rfl
  have fc_t2_41 := X_t.frozen 2
  have c_t3_42 := X_t.cell 3 _ rfl
  have fc_t3_42 := X_t.frozen 3
  have c_t4_43 := X_t.cell 4 _ rfl
  have fc_t4_43 := X_t.frozen 4
  go_wp2_with fail
  refine (P3.out _).mono ?_
  rintro e w_44 ⟨rfl, b_44⟩
  clear c_t0_39 fc_t0_39 c_t1_40 fc_t1_40 c_t2_41 fc_t2_41 c_t3_42 fc_t3_42 c_t4_43 fc_t4_43
  replace X_t := X_t.below b_44
  replace X_p1 := X_p1.below b_44
  replace X_r1 := X_r1.below b_44
  replace X_p2 := X_p2.below b_44
  replace X_r2 := X_r2.below b_44
  have B10 := B9.trans (b_44.mono B9.size)
  clear B9
  clear b_44
  replace X_t := X_t.alloc (.cells #[.string ⟨s3.toArray⟩, .string ⟨p3.toArray⟩, .int .i64 r3, .int .i64 f3, .bool o3] 23)
  replace X_p1 := X_p1.alloc (.cells #[.string ⟨s3.toArray⟩, .string ⟨p3.toArray⟩, .int .i64 r3, .int .i64 f3, .bool o3] 23)
  replace X_r1 := X_r1.alloc (.cells #[.string ⟨s3.toArray⟩, .string ⟨p3.toArray⟩, .int .i64 r3, .int .i64 f3, .bool o3] 23)
  replace X_p2 := X_p2.alloc (.cells #[.string ⟨s3.toArray⟩, .string ⟨p3.toArray⟩, .int .i64 r3, .int .i64 f3, .bool o3] 23)
  replace X_r2 := X_r2.alloc (.cells #[.string ⟨s3.toArray⟩, .string ⟨p3.toArray⟩, .int .i64 r3, .int .i64 f3, .bool o3] 23)
  have X_p3 := SBox.new w_44 23 #[.string ⟨s3.toArray⟩, .string ⟨p3.toArray⟩, .int .i64 r3, .int .i64 f3, .bool o3]
  have l_p3 := B10.size
  have B11 := B10.alloc B10.size (.cells #[.string ⟨s3.toArray⟩, .string ⟨p3.toArray⟩, .int .i64 r3, .int .i64 f3, .bool o3] 23)
  clear B10
  have c_t0_45 := X_t.cell 0 _ rfl
  have fc_t0_45 := X_t.frozen 0
  have c_t1_46 := X_t.cell 1 _ rfl
  have fc_t1_46 := X_t.frozen 1
  have c_t2_47 := X_t.cell 2 _ rfl
  have fc_t2_47 := X_t.frozen 2
  have c_t3_48 := X_t.cell 3 _ rfl
  have fc_t3_48 := X_t.frozen 3
  have c_t4_49 := X_t.cell 4 _ rfl
  have fc_t4_49 := X_t.frozen 4
  go_wp2_with fail
  refine (R3.out _).mono ?_
  rintro e w_50 ⟨rfl, b_50⟩
  clear c_t0_45 fc_t0_45 c_t1_46 fc_t1_46 c_t2_47 fc_t2_47 c_t3_48 fc_t3_48 c_t4_49 fc_t4_49
  replace X_t := X_t.below b_50
  replace X_p1 := X_p1.below b_50
  replace X_r1 := X_r1.below b_50
  replace X_p2 := X_p2.below b_50
  replace X_r2 := X_r2.below b_50
  replace X_p3 := X_p3.below b_50
  have B12 := B11.trans (b_50.mono B11.size)
  clear B11
  clear b_50
  replace X_t := X_t.alloc (.cells #[.string ⟨s3.toArray⟩, .string ⟨p3.toArray⟩, .int .i64 r3, .int .i64 f3, .bool o3] 23)
  replace X_p1 := X_p1.alloc (.cells #[.string ⟨s3.toArray⟩, .string ⟨p3.toArray⟩, .int .i64 r3, .int .i64 f3, .bool o3] 23)
  replace X_r1 := X_r1.alloc (.cells #[.string ⟨s3.toArray⟩, .string ⟨p3.toArray⟩, .int .i64 r3, .int .i64 f3, .bool o3] 23)
  replace X_p2 := X_p2.alloc (.cells #[.string ⟨s3.toArray⟩, .string ⟨p3.toArray⟩, .int .i64 r3, .int .i64 f3, .bool o3] 23)
  replace X_r2 := X_r2.alloc (.cells #[.string ⟨s3.toArray⟩, .string ⟨p3.toArray⟩, .int .i64 r3, .int .i64 f3, .bool o3] 23)
  replace X_p3 := X_p3.alloc (.cells #[.string ⟨s3.toArray⟩, .string ⟨p3.toArray⟩, .int .i64 r3, .int .i64 f3, .bool o3] 23)
  have X_r3 := SBox.new w_50 23 #[.string ⟨s3.toArray⟩, .string ⟨p3.toArray⟩, .int .i64 r3, .int .i64 f3, .bool o3]
  have l_r3 := B12.size
  have B13 := B12.alloc B12.size (.cells #[.string ⟨s3.toArray⟩, .string ⟨p3.toArray⟩, .int .i64 r3, .int .i64 f3, .bool o3] 23)
  clear B12
  have c_t0_51 := X_t.cell 0 _ rfl
  have fc_t0_51 := X_t.frozen 0
  have c_t1_52 := X_t.cell 1 _ rfl
  have fc_t1_52 := X_t.frozen 1
  have c_t2_53 := X_t.cell 2 _ rfl
  have fc_t2_53 := X_t.frozen 2
  have c_t3_54 := X_t.cell 3 _ rfl
  have fc_t3_54 := X_t.frozen 3
  have c_t4_55 := X_t.cell 4 _ rfl
  have fc_t4_55 := X_t.frozen 4
  go_wp2_with fail
  refine (P7 _).mono ?_
  rintro e w_56 ⟨v1, rfl, b_56, R_l⟩
  clear c_t0_51 fc_t0_51 c_t1_52 fc_t1_52 c_t2_53 fc_t2_53 c_t3_54 fc_t3_54 c_t4_55 fc_t4_55
  replace X_t := X_t.below b_56
  replace X_p1 := X_p1.below b_56
  replace X_r1 := X_r1.below b_56
  replace X_p2 := X_p2.below b_56
  replace X_r2 := X_r2.below b_56
  replace X_p3 := X_p3.below b_56
  replace X_r3 := X_r3.below b_56
  have B14 := B13.trans (b_56.mono B13.size)
  clear B13
  clear b_56
  have c_t0_57 := X_t.cell 0 _ rfl
  have fc_t0_57 := X_t.frozen 0
  have c_t1_58 := X_t.cell 1 _ rfl
  have fc_t1_58 := X_t.frozen 1
  have c_t2_59 := X_t.cell 2 _ rfl
  have fc_t2_59 := X_t.frozen 2
  have c_t3_60 := X_t.cell 3 _ rfl
  have fc_t3_60 := X_t.frozen 3
  have c_t4_61 := X_t.cell 4 _ rfl
  have fc_t4_61 := X_t.frozen 4
  go_wp2_with fail
  refine (R7 _).mono ?_
  rintro e w_62 ⟨v2, rfl, b_62, R_k⟩
  clear c_t0_57 fc_t0_57 c_t1_58 fc_t1_58 c_t2_59 fc_t2_59 c_t3_60 fc_t3_60 c_t4_61 fc_t4_61
  replace X_t := X_t.below b_62
  replace X_p1 := X_p1.below b_62
  replace X_r1 := X_r1.below b_62
  replace X_p2 := X_p2.below b_62
  replace X_r2 := X_r2.below b_62
  replace X_p3 := X_p3.below b_62
  replace X_r3 := X_r3.below b_62
  replace R_l := R_l.below b_62
  have B15 := B14.trans (b_62.mono B14.size)
  clear B14
  clear b_62
  have c_t0_63 := X_t.cell 0 _ rfl
  have fc_t0_63 := X_t.frozen 0
  have c_t1_64 := X_t.cell 1 _ rfl
  have fc_t1_64 := X_t.frozen 1
  have c_t2_65 := X_t.cell 2 _ rfl
  have fc_t2_65 := X_t.frozen 2
  have c_t3_66 := X_t.cell 3 _ rfl
  have fc_t3_66 := X_t.frozen 3
  have c_t4_67 := X_t.cell 4 _ rfl
  have fc_t4_67 := X_t.frozen 4
  obtain ⟨y1, z1, rfl, -⟩ := R_l.len
  obtain ⟨y2, z2, rfl, -⟩ := R_k.len
  go_wp2_with fail
  refine wp_region_any (by kernel_rfl) ?_
  change wpAny _ _ _ _ _ _ _ (World.drew _)
  generalize hwd : World.drew _ = wd
  replace X_t := X_t.drew
  rw [hwd] at X_t
  replace X_p1 := X_p1.drew
  rw [hwd] at X_p1
  replace X_r1 := X_r1.drew
  rw [hwd] at X_r1
  replace X_p2 := X_p2.drew
  rw [hwd] at X_p2
  replace X_r2 := X_r2.drew
  rw [hwd] at X_r2
  replace X_p3 := X_p3.drew
  rw [hwd] at X_p3
  replace X_r3 := X_r3.drew
  rw [hwd] at X_r3
  replace R_l := R_l.below (Below.refl _ _).drew
  rw [hwd] at R_l
  replace R_k := R_k.below (Below.refl _ _).drew
  rw [hwd] at R_k
  have B16 := B15.drew
  rw [hwd] at B16
  clear hwd B15
  clear c_t0_63 fc_t0_63 c_t1_64 fc_t1_64 c_t2_65 fc_t2_65 c_t3_66 fc_t3_66 c_t4_67 fc_t4_67
  refine any_of_C (C := fun V => SBox V (w.heap.size + 1) 23 #[.string ⟨s.toArray⟩, .string ⟨p.toArray⟩, .int .i64 r, .int .i64 f, .bool o]) 10 _ _ _ _ ?_
  refine takeD 0 (.slice y1 L.length z1) rfl (by kernel_rfl) (fun _ _ _ h => h) (fun V hV => by go_simp) ?_
  refine takeD 1 (.slice y2 L.length z2) rfl (by kernel_rfl) (fun _ _ _ h => h) (fun V hV => by go_simp) ?_
  have D1 := same_txt _ _ L L wd (R_l.txt hq6 HQ3.out) (R_k.txt hq6 HQ3.out)
  rw [decide_eq_true rfl] at D1
  clear R_l R_k
  refine consC (i := 2) (by kernel_rfl) (by kernel_rfl) X_t rfl (fun K hK => ?_)
  have D1' := Lib.hid D1
  clear D1
  go_wp2_with fail
  refine (D1'.out).mono ?_
  rintro e w_68 ⟨rfl, b_68⟩
  replace X_t := X_t.below b_68
  replace X_p1 := X_p1.below b_68
  replace X_r1 := X_r1.below b_68
  replace X_p2 := X_p2.below b_68
  replace X_r2 := X_r2.below b_68
  replace X_p3 := X_p3.below b_68
  replace X_r3 := X_r3.below b_68
  have B17 := B16.trans (b_68.mono B16.size)
  clear B16
  clear b_68
  clear D1'
  go_wp2_with fail
  refine takeD 3 (.bool true) rfl (by kernel_rfl) (fun _ _ _ h => h) (fun V hV => by go_simp) ?_
  refine takeD 4 (.agg #[.string ⟨s.toArray⟩, .string ⟨p.toArray⟩, .int .i64 r, .int .i64 f, .bool o]) rfl (by kernel_rfl) (fun _ _ _ h => h) (fun V hV => by have y0 := hV.cell 0 _ rfl; have y1 := hV.cell 1 _ rfl; have y2 := hV.cell 2 _ rfl; have y3 := hV.cell 3 _ rfl; have y4 := hV.cell 4 _ rfl; go_simp) ?_
  refine takeD 6 (.agg #[.string ⟨s.toArray⟩, .string ⟨p.toArray⟩, .int .i64 r, .int .i64 f, .bool o]) rfl (by kernel_rfl) (fun _ _ _ h => h) (fun V hV => by have y0 := hV.cell 0 _ rfl; have y1 := hV.cell 1 _ rfl; have y2 := hV.cell 2 _ rfl; have y3 := hV.cell 3 _ rfl; have y4 := hV.cell 4 _ rfl; go_simp) ?_
  refine consC (i := 5) (by kernel_rfl) (by kernel_rfl) X_t rfl (fun K hK => ?_)
  go_wp2_with fail
  refine (P6.out _).mono ?_
  rintro e w_69 ⟨v3, rfl, b_69, R_q⟩
  replace X_t := X_t.below b_69
  replace X_p1 := X_p1.below b_69
  replace X_r1 := X_r1.below b_69
  replace X_p2 := X_p2.below b_69
  replace X_r2 := X_r2.below b_69
  replace X_p3 := X_p3.below b_69
  replace X_r3 := X_r3.below b_69
  have B18 := B17.trans (b_69.mono B17.size)
  clear B17
  clear b_69
  obtain ⟨y3, z3, rfl, -⟩ := R_q.len
  go_wp2_with fail
  refine consC (i := 7) (by kernel_rfl) (by kernel_rfl) X_t rfl (fun K hK => ?_)
  go_wp2_with fail
  refine (R6.out _).mono ?_
  rintro e w_70 ⟨v4, rfl, b_70, R_h⟩
  replace X_t := X_t.below b_70
  replace X_p1 := X_p1.below b_70
  replace X_r1 := X_r1.below b_70
  replace X_p2 := X_p2.below b_70
  replace X_r2 := X_r2.below b_70
  replace X_p3 := X_p3.below b_70
  replace X_r3 := X_r3.below b_70
  replace R_q := R_q.below b_70
  have B19 := B18.trans (b_70.mono B18.size)
  clear B18
  clear b_70
  obtain ⟨y4, z4, rfl, -⟩ := R_h.len
  go_wp2_with fail
  have D2 := same_txt _ _ Q Q _ (R_q.txt hq5 HQ1.out) (R_h.txt hq5 HQ1.out)
  rw [decide_eq_true rfl] at D2
  clear R_q R_h
  refine consC (i := 8) (by kernel_rfl) (by kernel_rfl) X_t rfl (fun K hK => ?_)
  have D2' := Lib.hid D2
  clear D2
  go_wp2_with fail
  refine (D2'.out).mono ?_
  rintro e w_71 ⟨rfl, b_71⟩
  replace X_t := X_t.below b_71
  replace X_p1 := X_p1.below b_71
  replace X_r1 := X_r1.below b_71
  replace X_p2 := X_p2.below b_71
  replace X_r2 := X_r2.below b_71
  replace X_p3 := X_p3.below b_71
  replace X_r3 := X_r3.below b_71
  have B20 := B19.trans (b_71.mono B19.size)
  clear B19
  clear b_71
  clear D2'
  go_wp2_with fail
  refine takeD 9 (.bool true) rfl (by kernel_rfl) (fun _ _ _ h => h) (fun V hV => by go_simp) ?_
  refine lastC (by kernel_rfl) (by kernel_rfl) X_t (of_decide_eq_true (by kernel_rfl)) ?_
  refine any_seqI [10] [_] _ _ _ rfl (by kernel_rfl) ?_
  have c_t0_72 := X_t.cell 0 _ rfl
  have fc_t0_72 := X_t.frozen 0
  have c_t1_73 := X_t.cell 1 _ rfl
  have fc_t1_73 := X_t.frozen 1
  have c_t2_74 := X_t.cell 2 _ rfl
  have fc_t2_74 := X_t.frozen 2
  have c_t3_75 := X_t.cell 3 _ rfl
  have fc_t3_75 := X_t.frozen 3
  have c_t4_76 := X_t.cell 4 _ rfl
  have fc_t4_76 := X_t.frozen 4
  have c_p10_77 := X_p1.cell 0 _ rfl
  have fc_p10_77 := X_p1.frozen 0
  have c_p11_78 := X_p1.cell 1 _ rfl
  have fc_p11_78 := X_p1.frozen 1
  have c_p12_79 := X_p1.cell 2 _ rfl
  have fc_p12_79 := X_p1.frozen 2
  have c_p13_80 := X_p1.cell 3 _ rfl
  have fc_p13_80 := X_p1.frozen 3
  have c_p14_81 := X_p1.cell 4 _ rfl
  have fc_p14_81 := X_p1.frozen 4
  have c_r10_82 := X_r1.cell 0 _ rfl
  have fc_r10_82 := X_r1.frozen 0
  have c_r11_83 := X_r1.cell 1 _ rfl
  have fc_r11_83 := X_r1.frozen 1
  have c_r12_84 := X_r1.cell 2 _ rfl
  have fc_r12_84 := X_r1.frozen 2
  have c_r13_85 := X_r1.cell 3 _ rfl
  have fc_r13_85 := X_r1.frozen 3
  have c_r14_86 := X_r1.cell 4 _ rfl
  have fc_r14_86 := X_r1.frozen 4
  have c_p20_87 := X_p2.cell 0 _ rfl
  have fc_p20_87 := X_p2.frozen 0
  have c_p21_88 := X_p2.cell 1 _ rfl
  have fc_p21_88 := X_p2.frozen 1
  have c_p22_89 := X_p2.cell 2 _ rfl
  have fc_p22_89 := X_p2.frozen 2
  have c_p23_90 := X_p2.cell 3 _ rfl
  have fc_p23_90 := X_p2.frozen 3
  have c_p24_91 := X_p2.cell 4 _ rfl
  have fc_p24_91 := X_p2.frozen 4
  have c_r20_92 := X_r2.cell 0 _ rfl
  have fc_r20_92 := X_r2.frozen 0
  have c_r21_93 := X_r2.cell 1 _ rfl
  have fc_r21_93 := X_r2.frozen 1
  have c_r22_94 := X_r2.cell 2 _ rfl
  have fc_r22_94 := X_r2.frozen 2
  have c_r23_95 := X_r2.cell 3 _ rfl
  have fc_r23_95 := X_r2.frozen 3
  have c_r24_96 := X_r2.cell 4 _ rfl
  have fc_r24_96 := X_r2.frozen 4
  have c_p30_97 := X_p3.cell 0 _ rfl
  have fc_p30_97 := X_p3.frozen 0
  have c_p31_98 := X_p3.cell 1 _ rfl
  have fc_p31_98 := X_p3.frozen 1
  have c_p32_99 := X_p3.cell 2 _ rfl
  have fc_p32_99 := X_p3.frozen 2
  have c_p33_100 := X_p3.cell 3 _ rfl
  have fc_p33_100 := X_p3.frozen 3
  have c_p34_101 := X_p3.cell 4 _ rfl
  have fc_p34_101 := X_p3.frozen 4
  have c_r30_102 := X_r3.cell 0 _ rfl
  have fc_r30_102 := X_r3.frozen 0
  have c_r31_103 := X_r3.cell 1 _ rfl
  have fc_r31_103 := X_r3.frozen 1
  have c_r32_104 := X_r3.cell 2 _ rfl
  have fc_r32_104 := X_r3.frozen 2
  have c_r33_105 := X_r3.cell 3 _ rfl
  have fc_r33_105 := X_r3.frozen 3
  have c_r34_106 := X_r3.cell 4 _ rfl
  have fc_r34_106 := X_r3.frozen 4
  go_wp2_with fail
  refine region_far (by kernel_rfl) (by kernel_rfl) ?_
  repeat (first | go_big_quiet_skip | (go_big_quiet_want; go_big_quiet_op; first | go_big_quiet_on | go_big_quiet_call (first | (go_at_call 21; exact calls_far (P4.out _)) | (go_at_call 22; exact calls_far (R4.out _)) | (go_at_call 23; exact calls_far (P5.out _)) | (go_at_call 24; exact calls_far (R5.out _)))))
  refine wpQuiet_nil ?_
  rintro w' ⟨U, rfl⟩
  have BZ := bel_trans B20 (farW_bel _ U)
  generalize farW _ U = wB at BZ ⊢
  go_wp2_with fail
  go_ret
  exact ⟨rfl, BZ⟩
end Go.Proofs.Ytlaidbaghjlpfaa
