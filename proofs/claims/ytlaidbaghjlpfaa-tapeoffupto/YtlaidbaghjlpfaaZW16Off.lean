/-
  The walk of TapeOff.
-/
import Derived.Test.YtlaidbaghjlpfaaGU
import Derived.Test.YtlaidbaghjlpfaaGC
namespace Go.Proofs.Ytlaidbaghjlpfaa
set_option maxRecDepth 100000
open Go.RowKit
set_option linter.unusedVariables false
theorem run_tp_off (a b : ByteArray) (r f : Int) (o : Bool) (V : World) : (Instr.field 23 (.agg #[.string a, .string b, .int .i64 r, .int .i64 f, .bool o]) 4).run Try.prog V = .ok (.bool o) V := by kernel_rfl
attribute [local go_sem] ba_size farW_cell run_tp_off
set_option maxHeartbeats 4000000 in
theorem off16_walk (s p rec : List UInt8) (r f n : Int) (o : Bool) (hg : goodT (s, p, r, f, o)) (hl : rec.length ≤ 9223372036854775807) (w : World) : Calls Try.prog 8 #[tpV (s, p, r, f, o), .string ⟨rec.toArray⟩, .int .i64 n] w fun e w' => e = .returned (.bool true) ∧ Below w.heap.size w w' := by
  unfold tpV tpC
  simp only
  cases o
  · skip
    have X_t := SBox.new w 23 #[.string ⟨s.toArray⟩, .string ⟨p.toArray⟩, .int .i64 r, .int .i64 f, .bool false]
    have l_t := (Below.refl w.heap.size w).size
    have B1 := (Below.refl w.heap.size w).alloc (Below.refl w.heap.size w).size (.cells #[.string ⟨s.toArray⟩, .string ⟨p.toArray⟩, .int .i64 r, .int .i64 f, .bool false] 23)
    go_enter Try.func8, Try.ntmps8
    go_wp2_with fail
    refine (shown16_any _).mono ?_
    rintro e w_1 ⟨rfl, b_1⟩
    replace X_t := X_t.below b_1
    have B2 := B1.trans (b_1.mono B1.size)
    clear B1
    clear b_1
    have c_t0_2 := X_t.cell 0 _ rfl
    have fc_t0_2 := X_t.frozen 0
    have c_t1_3 := X_t.cell 1 _ rfl
    have fc_t1_3 := X_t.frozen 1
    have c_t2_4 := X_t.cell 2 _ rfl
    have fc_t2_4 := X_t.frozen 2
    have c_t3_5 := X_t.cell 3 _ rfl
    have fc_t3_5 := X_t.frozen 3
    have c_t4_6 := X_t.cell 4 _ rfl
    have fc_t4_6 := X_t.frozen 4
    go_wp2_with fail
    go_ret
    exact ⟨rfl, B2⟩
  · skip
    have C1 := fun W => pw16 (e := 6) (s' := s) (p' := p) (r' := r) (f' := f) (o' := true) hg hl rfl W
    have C2 := fun W => ps16 (e := 6) (s' := s) (p' := p) (r' := r) (f' := f) (o' := true) hg rfl W
    have C3 := fun W => pa16 (n := n) (s := s) (p := p) (r := r) (f := f) (o := true) (s' := s) (p' := p) (r' := r) (f' := f) (o' := true) rfl W
    obtain ⟨⟨s', p', r', f', o'⟩, hc⟩ : ∃ x, crashT (s, p, r, f, true) n = x := ⟨_, rfl⟩
    obtain rfl : o' = false := by have := congrArg (fun x : Tp => x.2.2.2.2) hc; exact this.symm
    have C4 := fun W => pc16 (n := n) hg hc W
    clear hg hc hl
    have X_t := SBox.new w 23 #[.string ⟨s.toArray⟩, .string ⟨p.toArray⟩, .int .i64 r, .int .i64 f, .bool true]
    have l_t := (Below.refl w.heap.size w).size
    have B1 := (Below.refl w.heap.size w).alloc (Below.refl w.heap.size w).size (.cells #[.string ⟨s.toArray⟩, .string ⟨p.toArray⟩, .int .i64 r, .int .i64 f, .bool true] 23)
    go_enter Try.func8, Try.ntmps8
    go_wp2_with fail
    refine (shown16_any _).mono ?_
    rintro e w_1 ⟨rfl, b_1⟩
    replace X_t := X_t.below b_1
    have B2 := B1.trans (b_1.mono B1.size)
    clear B1
    clear b_1
    have c_t0_2 := X_t.cell 0 _ rfl
    have fc_t0_2 := X_t.frozen 0
    have c_t1_3 := X_t.cell 1 _ rfl
    have fc_t1_3 := X_t.frozen 1
    have c_t2_4 := X_t.cell 2 _ rfl
    have fc_t2_4 := X_t.frozen 2
    have c_t3_5 := X_t.cell 3 _ rfl
    have fc_t3_5 := X_t.frozen 3
    have c_t4_6 := X_t.cell 4 _ rfl
    have fc_t4_6 := X_t.frozen 4
    go_wp2_with fail
    refine (C1 _).mono ?_
    rintro e w_7 ⟨rfl, b_7⟩
    clear c_t0_2 fc_t0_2 c_t1_3 fc_t1_3 c_t2_4 fc_t2_4 c_t3_5 fc_t3_5 c_t4_6 fc_t4_6
    replace X_t := X_t.below b_7
    have B3 := B2.trans (b_7.mono B2.size)
    clear B2
    clear b_7
    replace X_t := X_t.alloc (.cells #[.string ⟨s.toArray⟩, .string ⟨p.toArray⟩, .int .i64 r, .int .i64 f, .bool true] 23)
    have X_a := SBox.new w_7 23 #[.string ⟨s.toArray⟩, .string ⟨p.toArray⟩, .int .i64 r, .int .i64 f, .bool true]
    have l_a := B3.size
    have B4 := B3.alloc B3.size (.cells #[.string ⟨s.toArray⟩, .string ⟨p.toArray⟩, .int .i64 r, .int .i64 f, .bool true] 23)
    clear B3
    have c_t0_8 := X_t.cell 0 _ rfl
    have fc_t0_8 := X_t.frozen 0
    have c_t1_9 := X_t.cell 1 _ rfl
    have fc_t1_9 := X_t.frozen 1
    have c_t2_10 := X_t.cell 2 _ rfl
    have fc_t2_10 := X_t.frozen 2
    have c_t3_11 := X_t.cell 3 _ rfl
    have fc_t3_11 := X_t.frozen 3
    have c_t4_12 := X_t.cell 4 _ rfl
    have fc_t4_12 := X_t.frozen 4
    have c_a0_13 := X_a.cell 0 _ rfl
    have fc_a0_13 := X_a.frozen 0
    have c_a1_14 := X_a.cell 1 _ rfl
    have fc_a1_14 := X_a.frozen 1
    have c_a2_15 := X_a.cell 2 _ rfl
    have fc_a2_15 := X_a.frozen 2
    have c_a3_16 := X_a.cell 3 _ rfl
    have fc_a3_16 := X_a.frozen 3
    have c_a4_17 := X_a.cell 4 _ rfl
    have fc_a4_17 := X_a.frozen 4
    go_wp2_with fail
    refine (C2 _).mono ?_
    rintro e w_18 ⟨rfl, b_18⟩
    clear c_t0_8 fc_t0_8 c_t1_9 fc_t1_9 c_t2_10 fc_t2_10 c_t3_11 fc_t3_11 c_t4_12 fc_t4_12 c_a0_13 fc_a0_13 c_a1_14 fc_a1_14 c_a2_15 fc_a2_15 c_a3_16 fc_a3_16 c_a4_17 fc_a4_17
    replace X_t := X_t.below b_18
    replace X_a := X_a.below b_18
    have B5 := B4.trans (b_18.mono B4.size)
    clear B4
    clear b_18
    replace X_t := X_t.alloc (.cells #[.string ⟨s.toArray⟩, .string ⟨p.toArray⟩, .int .i64 r, .int .i64 f, .bool true] 23)
    replace X_a := X_a.alloc (.cells #[.string ⟨s.toArray⟩, .string ⟨p.toArray⟩, .int .i64 r, .int .i64 f, .bool true] 23)
    have X_b := SBox.new w_18 23 #[.string ⟨s.toArray⟩, .string ⟨p.toArray⟩, .int .i64 r, .int .i64 f, .bool true]
    have l_b := B5.size
    have B6 := B5.alloc B5.size (.cells #[.string ⟨s.toArray⟩, .string ⟨p.toArray⟩, .int .i64 r, .int .i64 f, .bool true] 23)
    clear B5
    have c_t0_19 := X_t.cell 0 _ rfl
    have fc_t0_19 := X_t.frozen 0
    have c_t1_20 := X_t.cell 1 _ rfl
    have fc_t1_20 := X_t.frozen 1
    have c_t2_21 := X_t.cell 2 _ rfl
    have fc_t2_21 := X_t.frozen 2
    have c_t3_22 := X_t.cell 3 _ rfl
    have fc_t3_22 := X_t.frozen 3
    have c_t4_23 := X_t.cell 4 _ rfl
    have fc_t4_23 := X_t.frozen 4
    have c_a0_24 := X_a.cell 0 _ rfl
    have fc_a0_24 := X_a.frozen 0
    have c_a1_25 := X_a.cell 1 _ rfl
    have fc_a1_25 := X_a.frozen 1
    have c_a2_26 := X_a.cell 2 _ rfl
    have fc_a2_26 := X_a.frozen 2
    have c_a3_27 := X_a.cell 3 _ rfl
    have fc_a3_27 := X_a.frozen 3
    have c_a4_28 := X_a.cell 4 _ rfl
    have fc_a4_28 := X_a.frozen 4
    have c_b0_29 := X_b.cell 0 _ rfl
    have fc_b0_29 := X_b.frozen 0
    have c_b1_30 := X_b.cell 1 _ rfl
    have fc_b1_30 := X_b.frozen 1
    have c_b2_31 := X_b.cell 2 _ rfl
    have fc_b2_31 := X_b.frozen 2
    have c_b3_32 := X_b.cell 3 _ rfl
    have fc_b3_32 := X_b.frozen 3
    have c_b4_33 := X_b.cell 4 _ rfl
    have fc_b4_33 := X_b.frozen 4
    go_wp2_with fail
    refine region_far (by kernel_rfl) (by kernel_rfl) ?_
    repeat (first | go_big_quiet_skip | (go_big_quiet_want; go_big_quiet_op; first | go_big_quiet_on | go_big_quiet_call (first | (go_at_call 21; exact calls_far (C3 _)) | (go_at_call 23; exact calls_far (C4 _)))))
    refine wpQuiet_nil ?_
    rintro w' ⟨U, rfl⟩
    have BZ := bel_trans B6 (farW_bel _ U)
    generalize farW _ U = wB at BZ ⊢
    go_wp2_with fail
    go_ret
    exact ⟨rfl, BZ⟩
end Go.Proofs.Ytlaidbaghjlpfaa
