/-
  What tape.Write answers.
-/
import Derived.Test.YtngllioidfffdaaGT
import Derived.Test.YtngllioidfffdaaGJ
import Derived.Lib.Hide
namespace Go.Proofs.Ytngllioidfffdaa
set_option maxRecDepth 100000
open Go.RowKit
set_option linter.unusedVariables false
attribute [local go_sem] ba_size ba_append ba_extract
set_option maxHeartbeats 16000000 in
theorem pwrite16_on (s p b rec : List UInt8) (r f : Int) (k : Nat) (hk : powT f b.length = (k : Int)) (hkb : k ≤ b.length) (h1 : ¬ 65535 < rec.length) (hb : Lm.lenL rec.length ++ rec = b) (hbl : b.length ≤ 65538) (g2 : r ≤ 9223372036854775807) (g3 : -9223372036854775808 ≤ f) (g4 : f ≤ 9223372036854775807) (g6 : p.length ≤ 1125899906842624) (h2 : ¬ r < (b.length : Int)) (w : World) :
    Calls Try.prog 56 #[tpV (s, p, r, f, false), .string ⟨rec.toArray⟩] w fun e w' => e = .returned (.tuple #[tpV ((if k = b.length then laidT (s, p, r, f, false) b else ((laidT (s, p, r, f, false) (b.take k)).1, (laidT (s, p, r, f, false) (b.take k)).2.1, (laidT (s, p, r, f, false) (b.take k)).2.2.1, (laidT (s, p, r, f, false) (b.take k)).2.2.2.1, true)) : Tp), .int .i64 (if k = b.length then 0 else 6)]) ∧ Below w.heap.size w w' := by
  have T := fun W => text_ok rec h1 W
  rw [hb] at T
  have X := (SBox.new w 23 #[.string ⟨s.toArray⟩, .string ⟨p.toArray⟩, .int .i64 r, .int .i64 f, .bool false]).alloc (.cells #[.string ⟨#[]⟩, .string ⟨#[]⟩, .int .i64 0, .int .i64 0, .bool false] 23)
  have R := sbox2 w (.cells #[.string ⟨s.toArray⟩, .string ⟨p.toArray⟩, .int .i64 r, .int .i64 f, .bool false] 23) 23 #[.string ⟨#[]⟩, .string ⟨#[]⟩, .int .i64 0, .int .i64 0, .bool false]
  have B0 := bel2 w (.cells #[.string ⟨s.toArray⟩, .string ⟨p.toArray⟩, .int .i64 r, .int .i64 f, .bool false] 23) (.cells #[.string ⟨#[]⟩, .string ⟨#[]⟩, .int .i64 0, .int .i64 0, .bool false] 23)
  have hkl : (b.take k).length = k := by rw [List.length_take]; omega
  have CA0 := fun W => plaid16_any s p b r f false g6 hbl ⟨by omega, g2⟩ ⟨g3, g4⟩ W
  have CC0 := fun W => plaid16_any s p (b.take k) r f false g6 (by omega) ⟨by omega, g2⟩ ⟨g3, g4⟩ W
  have CB0 := fun W => ppow16_any s p r f false (b.length : Int) W
  rw [hk] at CB0
  unfold laidT at CA0 CC0 ⊢
  simp only [hkl] at CA0 CC0 ⊢
  obtain ⟨f1, hf1⟩ : ∃ f1, (if 0 ≤ f then f - (b.length : Int) else f) = f1 := ⟨_, rfl⟩
  obtain ⟨f2, hf2⟩ : ∃ f2, (if 0 ≤ f then f - (k : Int) else f) = f2 := ⟨_, rfl⟩
  rw [hf1] at CA0 ⊢
  rw [hf2] at CC0 ⊢
  unfold tpV tpC at CA0 CB0 CC0 ⊢
  simp only at CA0 CB0 CC0 ⊢
  have HQ : Hid (k = b.length → f2 = f1) := fun h => by rw [← hf1, ← hf2, h]
  have CA := Lib.hid CA0
  have CB := Lib.hid CB0
  have CC := Lib.hid CC0
  have z1 : (k : Int) ≤ (b.length : Int) := by omega
  clear CA0 CB0 CC0 hf1 hf2 hk hb
  have hne : ¬ k = b.length → (s, p ++ b.take k, r - (k : Int), f2, false) ≠ (s, p ++ b, r - (b.length : Int), f1, false) := fun hh e => by
    have e1 := congrArg (fun x : Tp => x.2.2.1) e
    simp only at e1
    omega
  have HNE := Lib.hid hne
  clear hne
  go_enter Try.func56, Try.ntmps56
  go_wp2_with fail
  refine (T _).mono ?_
  rintro e w1 ⟨rfl, b1⟩
  have X1 := X.below b1
  have R1 := R.below b1
  have B1 := bel_trans B0 b1
  have x0 := X1.cell 0 _ rfl
  have x1 := X1.cell 1 _ rfl
  have x2 := X1.cell 2 _ rfl
  have x3 := X1.cell 3 _ rfl
  have x4 := X1.cell 4 _ rfl
  have fx0 := X1.frozen 0
  have fx1 := X1.frozen 1
  have fx2 := X1.frozen 2
  have fx3 := X1.frozen 3
  have fx4 := X1.frozen 4
  have r0 := R1.cell 0 _ rfl
  have r1 := R1.cell 1 _ rfl
  have r2 := R1.cell 2 _ rfl
  have r3 := R1.cell 3 _ rfl
  have r4 := R1.cell 4 _ rfl
  have fr0 := R1.frozen 0
  have fr1 := R1.frozen 1
  have fr2 := R1.frozen 2
  have fr3 := R1.frozen 3
  have fr4 := R1.frozen 4
  clear X R B0 T
  go_upto_region 8 with fail
  go_cut [8, 9] from 30 to 40 (fun s8 s9 W => ∃ bx cy, s8 = .pointer (some ⟨bx, 0, none⟩) ∧ s9 = .pointer (some ⟨cy, 0, none⟩) ∧ TpE w W bx cy #[.string ⟨s.toArray⟩, .string ⟨(p ++ b).toArray⟩, .int .i64 (r - (b.length : Int)), .int .i64 f1, .bool false] #[.string ⟨s.toArray⟩, .string ⟨(p ++ b.take k).toArray⟩, .int .i64 (r - (k : Int)), .int .i64 f2, .bool false])
  case first =>
    refine wp_region_any (by kernel_rfl) ?_
    change wpAny _ _ _ _ _ _ _ (World.drew _)
    generalize hwd : World.drew _ = wd
    have T : TpS w wd #[.string ⟨s.toArray⟩, .string ⟨p.toArray⟩, .int .i64 r, .int .i64 f, .bool false] none none := by rw [← hwd]; exact ⟨B1.drew, X1, R1, fun b e => (by cases e), fun b e => (by cases e), fun b c e => (by cases e)⟩
    clear hwd B1 X1 R1 b1
    refine any_of_C (C := fun V => SBox V w.heap.size 23 #[.string ⟨s.toArray⟩, .string ⟨p.toArray⟩, .int .i64 r, .int .i64 f, .bool false]) 14 _ _ _ _ ?_
    refine takeD 0 (.agg #[.string ⟨s.toArray⟩, .string ⟨p.toArray⟩, .int .i64 r, .int .i64 f, .bool false]) rfl (by kernel_rfl) (fun _ _ _ h => h) (fun V hV => by have y0 := hV.cell 0 _ rfl; have y1 := hV.cell 1 _ rfl; have y2 := hV.cell 2 _ rfl; have y3 := hV.cell 3 _ rfl; have y4 := hV.cell 4 _ rfl; go_simp) ?_
    refine takeD 1 (.string ⟨b.toArray⟩) rfl (by kernel_rfl) (fun _ _ _ h => h) (fun V hV => by have y0 := hV.cell 0 _ rfl; have y1 := hV.cell 1 _ rfl; have y2 := hV.cell 2 _ rfl; have y3 := hV.cell 3 _ rfl; have y4 := hV.cell 4 _ rfl; go_simp) ?_
    refine takeD 3 (.agg #[.string ⟨s.toArray⟩, .string ⟨p.toArray⟩, .int .i64 r, .int .i64 f, .bool false]) rfl (by kernel_rfl) (fun _ _ _ h => h) (fun V hV => by have y0 := hV.cell 0 _ rfl; have y1 := hV.cell 1 _ rfl; have y2 := hV.cell 2 _ rfl; have y3 := hV.cell 3 _ rfl; have y4 := hV.cell 4 _ rfl; go_simp) ?_
    refine takeD 4 (.string ⟨b.toArray⟩) rfl (by kernel_rfl) (fun _ _ _ h => h) (fun V hV => by have y0 := hV.cell 0 _ rfl; have y1 := hV.cell 1 _ rfl; have y2 := hV.cell 2 _ rfl; have y3 := hV.cell 3 _ rfl; have y4 := hV.cell 4 _ rfl; go_simp) ?_
    refine takeD 5 (.agg #[.string ⟨s.toArray⟩, .string ⟨p.toArray⟩, .int .i64 r, .int .i64 f, .bool false]) rfl (by kernel_rfl) (fun _ _ _ h => h) (fun V hV => by have y0 := hV.cell 0 _ rfl; have y1 := hV.cell 1 _ rfl; have y2 := hV.cell 2 _ rfl; have y3 := hV.cell 3 _ rfl; have y4 := hV.cell 4 _ rfl; go_simp) ?_
    refine takeD 6 (.string ⟨b.toArray⟩) rfl (by kernel_rfl) (fun _ _ _ h => h) (fun V hV => by have y0 := hV.cell 0 _ rfl; have y1 := hV.cell 1 _ rfl; have y2 := hV.cell 2 _ rfl; have y3 := hV.cell 3 _ rfl; have y4 := hV.cell 4 _ rfl; go_simp) ?_
    refine takeD 7 (.int .i64 (b.length : Int)) rfl (by kernel_rfl) (fun _ _ _ h => h) (fun V hV => by have y0 := hV.cell 0 _ rfl; have y1 := hV.cell 1 _ rfl; have y2 := hV.cell 2 _ rfl; have y3 := hV.cell 3 _ rfl; have y4 := hV.cell 4 _ rfl; go_simp) ?_
    refine fork3 (i := 2) (j := 11) (k := 12) (by kernel_rfl) (by kernel_rfl) T.bx rfl rfl rfl (fun K hK => ?_) (fun K hK => ?_) (fun K hK => ?_)
    · skip
      go_wp2_with fail
      refine (CA.out _).mono ?_
      rintro e W1 ⟨rfl, b1⟩
      replace T := T.below b1
      clear b1
      go_wp2_with fail
      refine fork3 (i := 8) (j := 11) (k := 12) (by kernel_rfl) (by kernel_rfl) T.bx rfl rfl rfl (fun K hK => ?_) (fun K hK => ?_) (fun K hK => ?_)
      · skip
        go_wp2_with fail
        refine (CB.out _).mono ?_
        rintro e W2 ⟨rfl, b1⟩
        replace T := T.below b1
        clear b1
        go_wp2_with fail
        refine takeD 9 (.string ⟨(b.take k).toArray⟩) rfl (by kernel_rfl) (fun _ _ _ h => h) (fun V hV => by go_simp) ?_
        refine fork3 (i := 10) (j := 11) (k := 12) (by kernel_rfl) (by kernel_rfl) T.bx rfl rfl rfl (fun K hK => ?_) (fun K hK => ?_) (fun K hK => ?_)
        · skip
          go_wp2_with fail
          refine (CC.out _).mono ?_
          rintro e W3 ⟨rfl, b1⟩
          replace T := T.below b1
          clear b1
          go_wp2_with fail
          refine fork2 (i := 11) (j := 12) (by kernel_rfl) (by kernel_rfl) T.bx rfl rfl (fun K hK => ?_) (fun K hK => ?_)
          · skip
            go_wp2_with fail
            replace T := T.alloc8
            generalize World.alloc _ _ = W4 at T ⊢
            refine consC (i := 12) (by kernel_rfl) (by kernel_rfl) T.bx rfl (fun K hK => ?_)
            go_wp2_with fail
            replace T := T.alloc9
            generalize World.alloc _ _ = W5 at T ⊢
            have g8 := (T.x8 _ rfl).1
            have N := T.put (.string ⟨s.toArray⟩) (.string ⟨(p ++ b).toArray⟩) (.int .i64 (r - (b.length : Int))) (.int .i64 f1) (.bool false)
            have p0 := g8.cell 0 _ rfl
            have q0 := g8.frozen 0
            have p1 := g8.cell 1 _ rfl
            have q1 := g8.frozen 1
            have p2 := g8.cell 2 _ rfl
            have q2 := g8.frozen 2
            have p3 := g8.cell 3 _ rfl
            have q3 := g8.frozen 3
            have p4 := g8.cell 4 _ rfl
            have q4 := g8.frozen 4
            have HN := Lib.hid N
            clear N g8
            refine consC (i := 13) (by kernel_rfl) (by kernel_rfl) T.bx rfl (fun K hK => ?_)
            have HT := Lib.hid T
            clear T
            go_wp2_with fail
            have N := HN.out
            clear p0 q0 p1 q1 p2 q2 p3 q3 p4 q4 HN HT
            change TpO _ (World.setCell _ _ _) _ _ _ _ at N
            generalize World.setCell _ _ _ = WN at N ⊢
            have g9 := N.x9
            have E := N.put (.string ⟨s.toArray⟩) (.string ⟨(p ++ b.take k).toArray⟩) (.int .i64 (r - (k : Int))) (.int .i64 f2) (.bool false)
            have p0 := g9.cell 0 _ rfl
            have q0 := g9.frozen 0
            have p1 := g9.cell 1 _ rfl
            have q1 := g9.frozen 1
            have p2 := g9.cell 2 _ rfl
            have q2 := g9.frozen 2
            have p3 := g9.cell 3 _ rfl
            have q3 := g9.frozen 3
            have p4 := g9.cell 4 _ rfl
            have q4 := g9.frozen 4
            have HE := Lib.hid E
            clear E
            refine lastC (by kernel_rfl) (by kernel_rfl) N.bx (of_decide_eq_true (by kernel_rfl)) ?_
            refine any_seqI [14] [_] _ _ _ rfl (by kernel_rfl) ?_
            clear N g9
            go_wp2_with fail
            go_meet
            exact ⟨_, _, rfl, rfl, HE.out⟩
          · skip
            go_wp2_with fail
            replace T := T.alloc9
            generalize World.alloc _ _ = W6 at T ⊢
            refine consC (i := 11) (by kernel_rfl) (by kernel_rfl) T.bx rfl (fun K hK => ?_)
            go_wp2_with fail
            replace T := T.alloc8
            generalize World.alloc _ _ = W7 at T ⊢
            have g8 := (T.x8 _ rfl).1
            have N := T.put (.string ⟨s.toArray⟩) (.string ⟨(p ++ b).toArray⟩) (.int .i64 (r - (b.length : Int))) (.int .i64 f1) (.bool false)
            have p0 := g8.cell 0 _ rfl
            have q0 := g8.frozen 0
            have p1 := g8.cell 1 _ rfl
            have q1 := g8.frozen 1
            have p2 := g8.cell 2 _ rfl
            have q2 := g8.frozen 2
            have p3 := g8.cell 3 _ rfl
            have q3 := g8.frozen 3
            have p4 := g8.cell 4 _ rfl
            have q4 := g8.frozen 4
            have HN := Lib.hid N
            clear N g8
            refine consC (i := 13) (by kernel_rfl) (by kernel_rfl) T.bx rfl (fun K hK => ?_)
            have HT := Lib.hid T
            clear T
            go_wp2_with fail
            have N := HN.out
            clear p0 q0 p1 q1 p2 q2 p3 q3 p4 q4 HN HT
            change TpO _ (World.setCell _ _ _) _ _ _ _ at N
            generalize World.setCell _ _ _ = WN at N ⊢
            have g9 := N.x9
            have E := N.put (.string ⟨s.toArray⟩) (.string ⟨(p ++ b.take k).toArray⟩) (.int .i64 (r - (k : Int))) (.int .i64 f2) (.bool false)
            have p0 := g9.cell 0 _ rfl
            have q0 := g9.frozen 0
            have p1 := g9.cell 1 _ rfl
            have q1 := g9.frozen 1
            have p2 := g9.cell 2 _ rfl
            have q2 := g9.frozen 2
            have p3 := g9.cell 3 _ rfl
            have q3 := g9.frozen 3
            have p4 := g9.cell 4 _ rfl
            have q4 := g9.frozen 4
            have HE := Lib.hid E
            clear E
            refine lastC (by kernel_rfl) (by kernel_rfl) N.bx (of_decide_eq_true (by kernel_rfl)) ?_
            refine any_seqI [14] [_] _ _ _ rfl (by kernel_rfl) ?_
            clear N g9
            go_wp2_with fail
            go_meet
            exact ⟨_, _, rfl, rfl, HE.out⟩
        · skip
          go_wp2_with fail
          replace T := T.alloc8
          generalize World.alloc _ _ = W8 at T ⊢
          refine fork2 (i := 10) (j := 12) (by kernel_rfl) (by kernel_rfl) T.bx rfl rfl (fun K hK => ?_) (fun K hK => ?_)
          · skip
            go_wp2_with fail
            refine (CC.out _).mono ?_
            rintro e W9 ⟨rfl, b1⟩
            replace T := T.below b1
            clear b1
            go_wp2_with fail
            refine consC (i := 12) (by kernel_rfl) (by kernel_rfl) T.bx rfl (fun K hK => ?_)
            go_wp2_with fail
            replace T := T.alloc9
            generalize World.alloc _ _ = W10 at T ⊢
            have g8 := (T.x8 _ rfl).1
            have N := T.put (.string ⟨s.toArray⟩) (.string ⟨(p ++ b).toArray⟩) (.int .i64 (r - (b.length : Int))) (.int .i64 f1) (.bool false)
            have p0 := g8.cell 0 _ rfl
            have q0 := g8.frozen 0
            have p1 := g8.cell 1 _ rfl
            have q1 := g8.frozen 1
            have p2 := g8.cell 2 _ rfl
            have q2 := g8.frozen 2
            have p3 := g8.cell 3 _ rfl
            have q3 := g8.frozen 3
            have p4 := g8.cell 4 _ rfl
            have q4 := g8.frozen 4
            have HN := Lib.hid N
            clear N g8
            refine consC (i := 13) (by kernel_rfl) (by kernel_rfl) T.bx rfl (fun K hK => ?_)
            have HT := Lib.hid T
            clear T
            go_wp2_with fail
            have N := HN.out
            clear p0 q0 p1 q1 p2 q2 p3 q3 p4 q4 HN HT
            change TpO _ (World.setCell _ _ _) _ _ _ _ at N
            generalize World.setCell _ _ _ = WN at N ⊢
            have g9 := N.x9
            have E := N.put (.string ⟨s.toArray⟩) (.string ⟨(p ++ b.take k).toArray⟩) (.int .i64 (r - (k : Int))) (.int .i64 f2) (.bool false)
            have p0 := g9.cell 0 _ rfl
            have q0 := g9.frozen 0
            have p1 := g9.cell 1 _ rfl
            have q1 := g9.frozen 1
            have p2 := g9.cell 2 _ rfl
            have q2 := g9.frozen 2
            have p3 := g9.cell 3 _ rfl
            have q3 := g9.frozen 3
            have p4 := g9.cell 4 _ rfl
            have q4 := g9.frozen 4
            have HE := Lib.hid E
            clear E
            refine lastC (by kernel_rfl) (by kernel_rfl) N.bx (of_decide_eq_true (by kernel_rfl)) ?_
            refine any_seqI [14] [_] _ _ _ rfl (by kernel_rfl) ?_
            clear N g9
            go_wp2_with fail
            go_meet
            exact ⟨_, _, rfl, rfl, HE.out⟩
          · skip
            go_wp2_with fail
            replace T := T.alloc9
            generalize World.alloc _ _ = W11 at T ⊢
            refine consC (i := 10) (by kernel_rfl) (by kernel_rfl) T.bx rfl (fun K hK => ?_)
            go_wp2_with fail
            refine (CC.out _).mono ?_
            rintro e W12 ⟨rfl, b1⟩
            replace T := T.below b1
            clear b1
            go_wp2_with fail
            have g8 := (T.x8 _ rfl).1
            have N := T.put (.string ⟨s.toArray⟩) (.string ⟨(p ++ b).toArray⟩) (.int .i64 (r - (b.length : Int))) (.int .i64 f1) (.bool false)
            have p0 := g8.cell 0 _ rfl
            have q0 := g8.frozen 0
            have p1 := g8.cell 1 _ rfl
            have q1 := g8.frozen 1
            have p2 := g8.cell 2 _ rfl
            have q2 := g8.frozen 2
            have p3 := g8.cell 3 _ rfl
            have q3 := g8.frozen 3
            have p4 := g8.cell 4 _ rfl
            have q4 := g8.frozen 4
            have HN := Lib.hid N
            clear N g8
            refine consC (i := 13) (by kernel_rfl) (by kernel_rfl) T.bx rfl (fun K hK => ?_)
            have HT := Lib.hid T
            clear T
            go_wp2_with fail
            have N := HN.out
            clear p0 q0 p1 q1 p2 q2 p3 q3 p4 q4 HN HT
            change TpO _ (World.setCell _ _ _) _ _ _ _ at N
            generalize World.setCell _ _ _ = WN at N ⊢
            have g9 := N.x9
            have E := N.put (.string ⟨s.toArray⟩) (.string ⟨(p ++ b.take k).toArray⟩) (.int .i64 (r - (k : Int))) (.int .i64 f2) (.bool false)
            have p0 := g9.cell 0 _ rfl
            have q0 := g9.frozen 0
            have p1 := g9.cell 1 _ rfl
            have q1 := g9.frozen 1
            have p2 := g9.cell 2 _ rfl
            have q2 := g9.frozen 2
            have p3 := g9.cell 3 _ rfl
            have q3 := g9.frozen 3
            have p4 := g9.cell 4 _ rfl
            have q4 := g9.frozen 4
            have HE := Lib.hid E
            clear E
            refine lastC (by kernel_rfl) (by kernel_rfl) N.bx (of_decide_eq_true (by kernel_rfl)) ?_
            refine any_seqI [14] [_] _ _ _ rfl (by kernel_rfl) ?_
            clear N g9
            go_wp2_with fail
            go_meet
            exact ⟨_, _, rfl, rfl, HE.out⟩
        · skip
          go_wp2_with fail
          replace T := T.alloc9
          generalize World.alloc _ _ = W13 at T ⊢
          refine fork2 (i := 10) (j := 11) (by kernel_rfl) (by kernel_rfl) T.bx rfl rfl (fun K hK => ?_) (fun K hK => ?_)
          · skip
            go_wp2_with fail
            refine (CC.out _).mono ?_
            rintro e W14 ⟨rfl, b1⟩
            replace T := T.below b1
            clear b1
            go_wp2_with fail
            refine consC (i := 11) (by kernel_rfl) (by kernel_rfl) T.bx rfl (fun K hK => ?_)
            go_wp2_with fail
            replace T := T.alloc8
            generalize World.alloc _ _ = W15 at T ⊢
            have g8 := (T.x8 _ rfl).1
            have N := T.put (.string ⟨s.toArray⟩) (.string ⟨(p ++ b).toArray⟩) (.int .i64 (r - (b.length : Int))) (.int .i64 f1) (.bool false)
            have p0 := g8.cell 0 _ rfl
            have q0 := g8.frozen 0
            have p1 := g8.cell 1 _ rfl
            have q1 := g8.frozen 1
            have p2 := g8.cell 2 _ rfl
            have q2 := g8.frozen 2
            have p3 := g8.cell 3 _ rfl
            have q3 := g8.frozen 3
            have p4 := g8.cell 4 _ rfl
            have q4 := g8.frozen 4
            have HN := Lib.hid N
            clear N g8
            refine consC (i := 13) (by kernel_rfl) (by kernel_rfl) T.bx rfl (fun K hK => ?_)
            have HT := Lib.hid T
            clear T
            go_wp2_with fail
            have N := HN.out
            clear p0 q0 p1 q1 p2 q2 p3 q3 p4 q4 HN HT
            change TpO _ (World.setCell _ _ _) _ _ _ _ at N
            generalize World.setCell _ _ _ = WN at N ⊢
            have g9 := N.x9
            have E := N.put (.string ⟨s.toArray⟩) (.string ⟨(p ++ b.take k).toArray⟩) (.int .i64 (r - (k : Int))) (.int .i64 f2) (.bool false)
            have p0 := g9.cell 0 _ rfl
            have q0 := g9.frozen 0
            have p1 := g9.cell 1 _ rfl
            have q1 := g9.frozen 1
            have p2 := g9.cell 2 _ rfl
            have q2 := g9.frozen 2
            have p3 := g9.cell 3 _ rfl
            have q3 := g9.frozen 3
            have p4 := g9.cell 4 _ rfl
            have q4 := g9.frozen 4
            have HE := Lib.hid E
            clear E
            refine lastC (by kernel_rfl) (by kernel_rfl) N.bx (of_decide_eq_true (by kernel_rfl)) ?_
            refine any_seqI [14] [_] _ _ _ rfl (by kernel_rfl) ?_
            clear N g9
            go_wp2_with fail
            go_meet
            exact ⟨_, _, rfl, rfl, HE.out⟩
          · skip
            go_wp2_with fail
            replace T := T.alloc8
            generalize World.alloc _ _ = W16 at T ⊢
            refine consC (i := 10) (by kernel_rfl) (by kernel_rfl) T.bx rfl (fun K hK => ?_)
            go_wp2_with fail
            refine (CC.out _).mono ?_
            rintro e W17 ⟨rfl, b1⟩
            replace T := T.below b1
            clear b1
            go_wp2_with fail
            have g8 := (T.x8 _ rfl).1
            have N := T.put (.string ⟨s.toArray⟩) (.string ⟨(p ++ b).toArray⟩) (.int .i64 (r - (b.length : Int))) (.int .i64 f1) (.bool false)
            have p0 := g8.cell 0 _ rfl
            have q0 := g8.frozen 0
            have p1 := g8.cell 1 _ rfl
            have q1 := g8.frozen 1
            have p2 := g8.cell 2 _ rfl
            have q2 := g8.frozen 2
            have p3 := g8.cell 3 _ rfl
            have q3 := g8.frozen 3
            have p4 := g8.cell 4 _ rfl
            have q4 := g8.frozen 4
            have HN := Lib.hid N
            clear N g8
            refine consC (i := 13) (by kernel_rfl) (by kernel_rfl) T.bx rfl (fun K hK => ?_)
            have HT := Lib.hid T
            clear T
            go_wp2_with fail
            have N := HN.out
            clear p0 q0 p1 q1 p2 q2 p3 q3 p4 q4 HN HT
            change TpO _ (World.setCell _ _ _) _ _ _ _ at N
            generalize World.setCell _ _ _ = WN at N ⊢
            have g9 := N.x9
            have E := N.put (.string ⟨s.toArray⟩) (.string ⟨(p ++ b.take k).toArray⟩) (.int .i64 (r - (k : Int))) (.int .i64 f2) (.bool false)
            have p0 := g9.cell 0 _ rfl
            have q0 := g9.frozen 0
            have p1 := g9.cell 1 _ rfl
            have q1 := g9.frozen 1
            have p2 := g9.cell 2 _ rfl
            have q2 := g9.frozen 2
            have p3 := g9.cell 3 _ rfl
            have q3 := g9.frozen 3
            have p4 := g9.cell 4 _ rfl
            have q4 := g9.frozen 4
            have HE := Lib.hid E
            clear E
            refine lastC (by kernel_rfl) (by kernel_rfl) N.bx (of_decide_eq_true (by kernel_rfl)) ?_
            refine any_seqI [14] [_] _ _ _ rfl (by kernel_rfl) ?_
            clear N g9
            go_wp2_with fail
            go_meet
            exact ⟨_, _, rfl, rfl, HE.out⟩
      · skip
        go_wp2_with fail
        replace T := T.alloc8
        generalize World.alloc _ _ = W18 at T ⊢
        refine fork2 (i := 8) (j := 12) (by kernel_rfl) (by kernel_rfl) T.bx rfl rfl (fun K hK => ?_) (fun K hK => ?_)
        · skip
          go_wp2_with fail
          refine (CB.out _).mono ?_
          rintro e W19 ⟨rfl, b1⟩
          replace T := T.below b1
          clear b1
          go_wp2_with fail
          refine takeD 9 (.string ⟨(b.take k).toArray⟩) rfl (by kernel_rfl) (fun _ _ _ h => h) (fun V hV => by go_simp) ?_
          refine fork2 (i := 10) (j := 12) (by kernel_rfl) (by kernel_rfl) T.bx rfl rfl (fun K hK => ?_) (fun K hK => ?_)
          · skip
            go_wp2_with fail
            refine (CC.out _).mono ?_
            rintro e W20 ⟨rfl, b1⟩
            replace T := T.below b1
            clear b1
            go_wp2_with fail
            refine consC (i := 12) (by kernel_rfl) (by kernel_rfl) T.bx rfl (fun K hK => ?_)
            go_wp2_with fail
            replace T := T.alloc9
            generalize World.alloc _ _ = W21 at T ⊢
            have g8 := (T.x8 _ rfl).1
            have N := T.put (.string ⟨s.toArray⟩) (.string ⟨(p ++ b).toArray⟩) (.int .i64 (r - (b.length : Int))) (.int .i64 f1) (.bool false)
            have p0 := g8.cell 0 _ rfl
            have q0 := g8.frozen 0
            have p1 := g8.cell 1 _ rfl
            have q1 := g8.frozen 1
            have p2 := g8.cell 2 _ rfl
            have q2 := g8.frozen 2
            have p3 := g8.cell 3 _ rfl
            have q3 := g8.frozen 3
            have p4 := g8.cell 4 _ rfl
            have q4 := g8.frozen 4
            have HN := Lib.hid N
            clear N g8
            refine consC (i := 13) (by kernel_rfl) (by kernel_rfl) T.bx rfl (fun K hK => ?_)
            have HT := Lib.hid T
            clear T
            go_wp2_with fail
            have N := HN.out
            clear p0 q0 p1 q1 p2 q2 p3 q3 p4 q4 HN HT
            change TpO _ (World.setCell _ _ _) _ _ _ _ at N
            generalize World.setCell _ _ _ = WN at N ⊢
            have g9 := N.x9
            have E := N.put (.string ⟨s.toArray⟩) (.string ⟨(p ++ b.take k).toArray⟩) (.int .i64 (r - (k : Int))) (.int .i64 f2) (.bool false)
            have p0 := g9.cell 0 _ rfl
            have q0 := g9.frozen 0
            have p1 := g9.cell 1 _ rfl
            have q1 := g9.frozen 1
            have p2 := g9.cell 2 _ rfl
            have q2 := g9.frozen 2
            have p3 := g9.cell 3 _ rfl
            have q3 := g9.frozen 3
            have p4 := g9.cell 4 _ rfl
            have q4 := g9.frozen 4
            have HE := Lib.hid E
            clear E
            refine lastC (by kernel_rfl) (by kernel_rfl) N.bx (of_decide_eq_true (by kernel_rfl)) ?_
            refine any_seqI [14] [_] _ _ _ rfl (by kernel_rfl) ?_
            clear N g9
            go_wp2_with fail
            go_meet
            exact ⟨_, _, rfl, rfl, HE.out⟩
          · skip
            go_wp2_with fail
            replace T := T.alloc9
            generalize World.alloc _ _ = W22 at T ⊢
            refine consC (i := 10) (by kernel_rfl) (by kernel_rfl) T.bx rfl (fun K hK => ?_)
            go_wp2_with fail
            refine (CC.out _).mono ?_
            rintro e W23 ⟨rfl, b1⟩
            replace T := T.below b1
            clear b1
            go_wp2_with fail
            have g8 := (T.x8 _ rfl).1
            have N := T.put (.string ⟨s.toArray⟩) (.string ⟨(p ++ b).toArray⟩) (.int .i64 (r - (b.length : Int))) (.int .i64 f1) (.bool false)
            have p0 := g8.cell 0 _ rfl
            have q0 := g8.frozen 0
            have p1 := g8.cell 1 _ rfl
            have q1 := g8.frozen 1
            have p2 := g8.cell 2 _ rfl
            have q2 := g8.frozen 2
            have p3 := g8.cell 3 _ rfl
            have q3 := g8.frozen 3
            have p4 := g8.cell 4 _ rfl
            have q4 := g8.frozen 4
            have HN := Lib.hid N
            clear N g8
            refine consC (i := 13) (by kernel_rfl) (by kernel_rfl) T.bx rfl (fun K hK => ?_)
            have HT := Lib.hid T
            clear T
            go_wp2_with fail
            have N := HN.out
            clear p0 q0 p1 q1 p2 q2 p3 q3 p4 q4 HN HT
            change TpO _ (World.setCell _ _ _) _ _ _ _ at N
            generalize World.setCell _ _ _ = WN at N ⊢
            have g9 := N.x9
            have E := N.put (.string ⟨s.toArray⟩) (.string ⟨(p ++ b.take k).toArray⟩) (.int .i64 (r - (k : Int))) (.int .i64 f2) (.bool false)
            have p0 := g9.cell 0 _ rfl
            have q0 := g9.frozen 0
            have p1 := g9.cell 1 _ rfl
            have q1 := g9.frozen 1
            have p2 := g9.cell 2 _ rfl
            have q2 := g9.frozen 2
            have p3 := g9.cell 3 _ rfl
            have q3 := g9.frozen 3
            have p4 := g9.cell 4 _ rfl
            have q4 := g9.frozen 4
            have HE := Lib.hid E
            clear E
            refine lastC (by kernel_rfl) (by kernel_rfl) N.bx (of_decide_eq_true (by kernel_rfl)) ?_
            refine any_seqI [14] [_] _ _ _ rfl (by kernel_rfl) ?_
            clear N g9
            go_wp2_with fail
            go_meet
            exact ⟨_, _, rfl, rfl, HE.out⟩
        · skip
          go_wp2_with fail
          replace T := T.alloc9
          generalize World.alloc _ _ = W24 at T ⊢
          refine consC (i := 8) (by kernel_rfl) (by kernel_rfl) T.bx rfl (fun K hK => ?_)
          go_wp2_with fail
          refine (CB.out _).mono ?_
          rintro e W25 ⟨rfl, b1⟩
          replace T := T.below b1
          clear b1
          go_wp2_with fail
          refine takeD 9 (.string ⟨(b.take k).toArray⟩) rfl (by kernel_rfl) (fun _ _ _ h => h) (fun V hV => by go_simp) ?_
          refine consC (i := 10) (by kernel_rfl) (by kernel_rfl) T.bx rfl (fun K hK => ?_)
          go_wp2_with fail
          refine (CC.out _).mono ?_
          rintro e W26 ⟨rfl, b1⟩
          replace T := T.below b1
          clear b1
          go_wp2_with fail
          have g8 := (T.x8 _ rfl).1
          have N := T.put (.string ⟨s.toArray⟩) (.string ⟨(p ++ b).toArray⟩) (.int .i64 (r - (b.length : Int))) (.int .i64 f1) (.bool false)
          have p0 := g8.cell 0 _ rfl
          have q0 := g8.frozen 0
          have p1 := g8.cell 1 _ rfl
          have q1 := g8.frozen 1
          have p2 := g8.cell 2 _ rfl
          have q2 := g8.frozen 2
          have p3 := g8.cell 3 _ rfl
          have q3 := g8.frozen 3
          have p4 := g8.cell 4 _ rfl
          have q4 := g8.frozen 4
          have HN := Lib.hid N
          clear N g8
          refine consC (i := 13) (by kernel_rfl) (by kernel_rfl) T.bx rfl (fun K hK => ?_)
          have HT := Lib.hid T
          clear T
          go_wp2_with fail
          have N := HN.out
          clear p0 q0 p1 q1 p2 q2 p3 q3 p4 q4 HN HT
          change TpO _ (World.setCell _ _ _) _ _ _ _ at N
          generalize World.setCell _ _ _ = WN at N ⊢
          have g9 := N.x9
          have E := N.put (.string ⟨s.toArray⟩) (.string ⟨(p ++ b.take k).toArray⟩) (.int .i64 (r - (k : Int))) (.int .i64 f2) (.bool false)
          have p0 := g9.cell 0 _ rfl
          have q0 := g9.frozen 0
          have p1 := g9.cell 1 _ rfl
          have q1 := g9.frozen 1
          have p2 := g9.cell 2 _ rfl
          have q2 := g9.frozen 2
          have p3 := g9.cell 3 _ rfl
          have q3 := g9.frozen 3
          have p4 := g9.cell 4 _ rfl
          have q4 := g9.frozen 4
          have HE := Lib.hid E
          clear E
          refine lastC (by kernel_rfl) (by kernel_rfl) N.bx (of_decide_eq_true (by kernel_rfl)) ?_
          refine any_seqI [14] [_] _ _ _ rfl (by kernel_rfl) ?_
          clear N g9
          go_wp2_with fail
          go_meet
          exact ⟨_, _, rfl, rfl, HE.out⟩
      · skip
        go_wp2_with fail
        replace T := T.alloc9
        generalize World.alloc _ _ = W27 at T ⊢
        refine fork2 (i := 8) (j := 11) (by kernel_rfl) (by kernel_rfl) T.bx rfl rfl (fun K hK => ?_) (fun K hK => ?_)
        · skip
          go_wp2_with fail
          refine (CB.out _).mono ?_
          rintro e W28 ⟨rfl, b1⟩
          replace T := T.below b1
          clear b1
          go_wp2_with fail
          refine takeD 9 (.string ⟨(b.take k).toArray⟩) rfl (by kernel_rfl) (fun _ _ _ h => h) (fun V hV => by go_simp) ?_
          refine fork2 (i := 10) (j := 11) (by kernel_rfl) (by kernel_rfl) T.bx rfl rfl (fun K hK => ?_) (fun K hK => ?_)
          · skip
            go_wp2_with fail
            refine (CC.out _).mono ?_
            rintro e W29 ⟨rfl, b1⟩
            replace T := T.below b1
            clear b1
            go_wp2_with fail
            refine consC (i := 11) (by kernel_rfl) (by kernel_rfl) T.bx rfl (fun K hK => ?_)
            go_wp2_with fail
            replace T := T.alloc8
            generalize World.alloc _ _ = W30 at T ⊢
            have g8 := (T.x8 _ rfl).1
            have N := T.put (.string ⟨s.toArray⟩) (.string ⟨(p ++ b).toArray⟩) (.int .i64 (r - (b.length : Int))) (.int .i64 f1) (.bool false)
            have p0 := g8.cell 0 _ rfl
            have q0 := g8.frozen 0
            have p1 := g8.cell 1 _ rfl
            have q1 := g8.frozen 1
            have p2 := g8.cell 2 _ rfl
            have q2 := g8.frozen 2
            have p3 := g8.cell 3 _ rfl
            have q3 := g8.frozen 3
            have p4 := g8.cell 4 _ rfl
            have q4 := g8.frozen 4
            have HN := Lib.hid N
            clear N g8
            refine consC (i := 13) (by kernel_rfl) (by kernel_rfl) T.bx rfl (fun K hK => ?_)
            have HT := Lib.hid T
            clear T
            go_wp2_with fail
            have N := HN.out
            clear p0 q0 p1 q1 p2 q2 p3 q3 p4 q4 HN HT
            change TpO _ (World.setCell _ _ _) _ _ _ _ at N
            generalize World.setCell _ _ _ = WN at N ⊢
            have g9 := N.x9
            have E := N.put (.string ⟨s.toArray⟩) (.string ⟨(p ++ b.take k).toArray⟩) (.int .i64 (r - (k : Int))) (.int .i64 f2) (.bool false)
            have p0 := g9.cell 0 _ rfl
            have q0 := g9.frozen 0
            have p1 := g9.cell 1 _ rfl
            have q1 := g9.frozen 1
            have p2 := g9.cell 2 _ rfl
            have q2 := g9.frozen 2
            have p3 := g9.cell 3 _ rfl
            have q3 := g9.frozen 3
            have p4 := g9.cell 4 _ rfl
            have q4 := g9.frozen 4
            have HE := Lib.hid E
            clear E
            refine lastC (by kernel_rfl) (by kernel_rfl) N.bx (of_decide_eq_true (by kernel_rfl)) ?_
            refine any_seqI [14] [_] _ _ _ rfl (by kernel_rfl) ?_
            clear N g9
            go_wp2_with fail
            go_meet
            exact ⟨_, _, rfl, rfl, HE.out⟩
          · skip
            go_wp2_with fail
            replace T := T.alloc8
            generalize World.alloc _ _ = W31 at T ⊢
            refine consC (i := 10) (by kernel_rfl) (by kernel_rfl) T.bx rfl (fun K hK => ?_)
            go_wp2_with fail
            refine (CC.out _).mono ?_
            rintro e W32 ⟨rfl, b1⟩
            replace T := T.below b1
            clear b1
            go_wp2_with fail
            have g8 := (T.x8 _ rfl).1
            have N := T.put (.string ⟨s.toArray⟩) (.string ⟨(p ++ b).toArray⟩) (.int .i64 (r - (b.length : Int))) (.int .i64 f1) (.bool false)
            have p0 := g8.cell 0 _ rfl
            have q0 := g8.frozen 0
            have p1 := g8.cell 1 _ rfl
            have q1 := g8.frozen 1
            have p2 := g8.cell 2 _ rfl
            have q2 := g8.frozen 2
            have p3 := g8.cell 3 _ rfl
            have q3 := g8.frozen 3
            have p4 := g8.cell 4 _ rfl
            have q4 := g8.frozen 4
            have HN := Lib.hid N
            clear N g8
            refine consC (i := 13) (by kernel_rfl) (by kernel_rfl) T.bx rfl (fun K hK => ?_)
            have HT := Lib.hid T
            clear T
            go_wp2_with fail
            have N := HN.out
            clear p0 q0 p1 q1 p2 q2 p3 q3 p4 q4 HN HT
            change TpO _ (World.setCell _ _ _) _ _ _ _ at N
            generalize World.setCell _ _ _ = WN at N ⊢
            have g9 := N.x9
            have E := N.put (.string ⟨s.toArray⟩) (.string ⟨(p ++ b.take k).toArray⟩) (.int .i64 (r - (k : Int))) (.int .i64 f2) (.bool false)
            have p0 := g9.cell 0 _ rfl
            have q0 := g9.frozen 0
            have p1 := g9.cell 1 _ rfl
            have q1 := g9.frozen 1
            have p2 := g9.cell 2 _ rfl
            have q2 := g9.frozen 2
            have p3 := g9.cell 3 _ rfl
            have q3 := g9.frozen 3
            have p4 := g9.cell 4 _ rfl
            have q4 := g9.frozen 4
            have HE := Lib.hid E
            clear E
            refine lastC (by kernel_rfl) (by kernel_rfl) N.bx (of_decide_eq_true (by kernel_rfl)) ?_
            refine any_seqI [14] [_] _ _ _ rfl (by kernel_rfl) ?_
            clear N g9
            go_wp2_with fail
            go_meet
            exact ⟨_, _, rfl, rfl, HE.out⟩
        · skip
          go_wp2_with fail
          replace T := T.alloc8
          generalize World.alloc _ _ = W33 at T ⊢
          refine consC (i := 8) (by kernel_rfl) (by kernel_rfl) T.bx rfl (fun K hK => ?_)
          go_wp2_with fail
          refine (CB.out _).mono ?_
          rintro e W34 ⟨rfl, b1⟩
          replace T := T.below b1
          clear b1
          go_wp2_with fail
          refine takeD 9 (.string ⟨(b.take k).toArray⟩) rfl (by kernel_rfl) (fun _ _ _ h => h) (fun V hV => by go_simp) ?_
          refine consC (i := 10) (by kernel_rfl) (by kernel_rfl) T.bx rfl (fun K hK => ?_)
          go_wp2_with fail
          refine (CC.out _).mono ?_
          rintro e W35 ⟨rfl, b1⟩
          replace T := T.below b1
          clear b1
          go_wp2_with fail
          have g8 := (T.x8 _ rfl).1
          have N := T.put (.string ⟨s.toArray⟩) (.string ⟨(p ++ b).toArray⟩) (.int .i64 (r - (b.length : Int))) (.int .i64 f1) (.bool false)
          have p0 := g8.cell 0 _ rfl
          have q0 := g8.frozen 0
          have p1 := g8.cell 1 _ rfl
          have q1 := g8.frozen 1
          have p2 := g8.cell 2 _ rfl
          have q2 := g8.frozen 2
          have p3 := g8.cell 3 _ rfl
          have q3 := g8.frozen 3
          have p4 := g8.cell 4 _ rfl
          have q4 := g8.frozen 4
          have HN := Lib.hid N
          clear N g8
          refine consC (i := 13) (by kernel_rfl) (by kernel_rfl) T.bx rfl (fun K hK => ?_)
          have HT := Lib.hid T
          clear T
          go_wp2_with fail
          have N := HN.out
          clear p0 q0 p1 q1 p2 q2 p3 q3 p4 q4 HN HT
          change TpO _ (World.setCell _ _ _) _ _ _ _ at N
          generalize World.setCell _ _ _ = WN at N ⊢
          have g9 := N.x9
          have E := N.put (.string ⟨s.toArray⟩) (.string ⟨(p ++ b.take k).toArray⟩) (.int .i64 (r - (k : Int))) (.int .i64 f2) (.bool false)
          have p0 := g9.cell 0 _ rfl
          have q0 := g9.frozen 0
          have p1 := g9.cell 1 _ rfl
          have q1 := g9.frozen 1
          have p2 := g9.cell 2 _ rfl
          have q2 := g9.frozen 2
          have p3 := g9.cell 3 _ rfl
          have q3 := g9.frozen 3
          have p4 := g9.cell 4 _ rfl
          have q4 := g9.frozen 4
          have HE := Lib.hid E
          clear E
          refine lastC (by kernel_rfl) (by kernel_rfl) N.bx (of_decide_eq_true (by kernel_rfl)) ?_
          refine any_seqI [14] [_] _ _ _ rfl (by kernel_rfl) ?_
          clear N g9
          go_wp2_with fail
          go_meet
          exact ⟨_, _, rfl, rfl, HE.out⟩
    · skip
      go_wp2_with fail
      replace T := T.alloc8
      generalize World.alloc _ _ = W36 at T ⊢
      refine fork2 (i := 2) (j := 12) (by kernel_rfl) (by kernel_rfl) T.bx rfl rfl (fun K hK => ?_) (fun K hK => ?_)
      · skip
        go_wp2_with fail
        refine (CA.out _).mono ?_
        rintro e W37 ⟨rfl, b1⟩
        replace T := T.below b1
        clear b1
        go_wp2_with fail
        refine fork2 (i := 8) (j := 12) (by kernel_rfl) (by kernel_rfl) T.bx rfl rfl (fun K hK => ?_) (fun K hK => ?_)
        · skip
          go_wp2_with fail
          refine (CB.out _).mono ?_
          rintro e W38 ⟨rfl, b1⟩
          replace T := T.below b1
          clear b1
          go_wp2_with fail
          refine takeD 9 (.string ⟨(b.take k).toArray⟩) rfl (by kernel_rfl) (fun _ _ _ h => h) (fun V hV => by go_simp) ?_
          refine fork2 (i := 10) (j := 12) (by kernel_rfl) (by kernel_rfl) T.bx rfl rfl (fun K hK => ?_) (fun K hK => ?_)
          · skip
            go_wp2_with fail
            refine (CC.out _).mono ?_
            rintro e W39 ⟨rfl, b1⟩
            replace T := T.below b1
            clear b1
            go_wp2_with fail
            refine consC (i := 12) (by kernel_rfl) (by kernel_rfl) T.bx rfl (fun K hK => ?_)
            go_wp2_with fail
            replace T := T.alloc9
            generalize World.alloc _ _ = W40 at T ⊢
            have g8 := (T.x8 _ rfl).1
            have N := T.put (.string ⟨s.toArray⟩) (.string ⟨(p ++ b).toArray⟩) (.int .i64 (r - (b.length : Int))) (.int .i64 f1) (.bool false)
            have p0 := g8.cell 0 _ rfl
            have q0 := g8.frozen 0
            have p1 := g8.cell 1 _ rfl
            have q1 := g8.frozen 1
            have p2 := g8.cell 2 _ rfl
            have q2 := g8.frozen 2
            have p3 := g8.cell 3 _ rfl
            have q3 := g8.frozen 3
            have p4 := g8.cell 4 _ rfl
            have q4 := g8.frozen 4
            have HN := Lib.hid N
            clear N g8
            refine consC (i := 13) (by kernel_rfl) (by kernel_rfl) T.bx rfl (fun K hK => ?_)
            have HT := Lib.hid T
            clear T
            go_wp2_with fail
            have N := HN.out
            clear p0 q0 p1 q1 p2 q2 p3 q3 p4 q4 HN HT
            change TpO _ (World.setCell _ _ _) _ _ _ _ at N
            generalize World.setCell _ _ _ = WN at N ⊢
            have g9 := N.x9
            have E := N.put (.string ⟨s.toArray⟩) (.string ⟨(p ++ b.take k).toArray⟩) (.int .i64 (r - (k : Int))) (.int .i64 f2) (.bool false)
            have p0 := g9.cell 0 _ rfl
            have q0 := g9.frozen 0
            have p1 := g9.cell 1 _ rfl
            have q1 := g9.frozen 1
            have p2 := g9.cell 2 _ rfl
            have q2 := g9.frozen 2
            have p3 := g9.cell 3 _ rfl
            have q3 := g9.frozen 3
            have p4 := g9.cell 4 _ rfl
            have q4 := g9.frozen 4
            have HE := Lib.hid E
            clear E
            refine lastC (by kernel_rfl) (by kernel_rfl) N.bx (of_decide_eq_true (by kernel_rfl)) ?_
            refine any_seqI [14] [_] _ _ _ rfl (by kernel_rfl) ?_
            clear N g9
            go_wp2_with fail
            go_meet
            exact ⟨_, _, rfl, rfl, HE.out⟩
          · skip
            go_wp2_with fail
            replace T := T.alloc9
            generalize World.alloc _ _ = W41 at T ⊢
            refine consC (i := 10) (by kernel_rfl) (by kernel_rfl) T.bx rfl (fun K hK => ?_)
            go_wp2_with fail
            refine (CC.out _).mono ?_
            rintro e W42 ⟨rfl, b1⟩
            replace T := T.below b1
            clear b1
            go_wp2_with fail
            have g8 := (T.x8 _ rfl).1
            have N := T.put (.string ⟨s.toArray⟩) (.string ⟨(p ++ b).toArray⟩) (.int .i64 (r - (b.length : Int))) (.int .i64 f1) (.bool false)
            have p0 := g8.cell 0 _ rfl
            have q0 := g8.frozen 0
            have p1 := g8.cell 1 _ rfl
            have q1 := g8.frozen 1
            have p2 := g8.cell 2 _ rfl
            have q2 := g8.frozen 2
            have p3 := g8.cell 3 _ rfl
            have q3 := g8.frozen 3
            have p4 := g8.cell 4 _ rfl
            have q4 := g8.frozen 4
            have HN := Lib.hid N
            clear N g8
            refine consC (i := 13) (by kernel_rfl) (by kernel_rfl) T.bx rfl (fun K hK => ?_)
            have HT := Lib.hid T
            clear T
            go_wp2_with fail
            have N := HN.out
            clear p0 q0 p1 q1 p2 q2 p3 q3 p4 q4 HN HT
            change TpO _ (World.setCell _ _ _) _ _ _ _ at N
            generalize World.setCell _ _ _ = WN at N ⊢
            have g9 := N.x9
            have E := N.put (.string ⟨s.toArray⟩) (.string ⟨(p ++ b.take k).toArray⟩) (.int .i64 (r - (k : Int))) (.int .i64 f2) (.bool false)
            have p0 := g9.cell 0 _ rfl
            have q0 := g9.frozen 0
            have p1 := g9.cell 1 _ rfl
            have q1 := g9.frozen 1
            have p2 := g9.cell 2 _ rfl
            have q2 := g9.frozen 2
            have p3 := g9.cell 3 _ rfl
            have q3 := g9.frozen 3
            have p4 := g9.cell 4 _ rfl
            have q4 := g9.frozen 4
            have HE := Lib.hid E
            clear E
            refine lastC (by kernel_rfl) (by kernel_rfl) N.bx (of_decide_eq_true (by kernel_rfl)) ?_
            refine any_seqI [14] [_] _ _ _ rfl (by kernel_rfl) ?_
            clear N g9
            go_wp2_with fail
            go_meet
            exact ⟨_, _, rfl, rfl, HE.out⟩
        · skip
          go_wp2_with fail
          replace T := T.alloc9
          generalize World.alloc _ _ = W43 at T ⊢
          refine consC (i := 8) (by kernel_rfl) (by kernel_rfl) T.bx rfl (fun K hK => ?_)
          go_wp2_with fail
          refine (CB.out _).mono ?_
          rintro e W44 ⟨rfl, b1⟩
          replace T := T.below b1
          clear b1
          go_wp2_with fail
          refine takeD 9 (.string ⟨(b.take k).toArray⟩) rfl (by kernel_rfl) (fun _ _ _ h => h) (fun V hV => by go_simp) ?_
          refine consC (i := 10) (by kernel_rfl) (by kernel_rfl) T.bx rfl (fun K hK => ?_)
          go_wp2_with fail
          refine (CC.out _).mono ?_
          rintro e W45 ⟨rfl, b1⟩
          replace T := T.below b1
          clear b1
          go_wp2_with fail
          have g8 := (T.x8 _ rfl).1
          have N := T.put (.string ⟨s.toArray⟩) (.string ⟨(p ++ b).toArray⟩) (.int .i64 (r - (b.length : Int))) (.int .i64 f1) (.bool false)
          have p0 := g8.cell 0 _ rfl
          have q0 := g8.frozen 0
          have p1 := g8.cell 1 _ rfl
          have q1 := g8.frozen 1
          have p2 := g8.cell 2 _ rfl
          have q2 := g8.frozen 2
          have p3 := g8.cell 3 _ rfl
          have q3 := g8.frozen 3
          have p4 := g8.cell 4 _ rfl
          have q4 := g8.frozen 4
          have HN := Lib.hid N
          clear N g8
          refine consC (i := 13) (by kernel_rfl) (by kernel_rfl) T.bx rfl (fun K hK => ?_)
          have HT := Lib.hid T
          clear T
          go_wp2_with fail
          have N := HN.out
          clear p0 q0 p1 q1 p2 q2 p3 q3 p4 q4 HN HT
          change TpO _ (World.setCell _ _ _) _ _ _ _ at N
          generalize World.setCell _ _ _ = WN at N ⊢
          have g9 := N.x9
          have E := N.put (.string ⟨s.toArray⟩) (.string ⟨(p ++ b.take k).toArray⟩) (.int .i64 (r - (k : Int))) (.int .i64 f2) (.bool false)
          have p0 := g9.cell 0 _ rfl
          have q0 := g9.frozen 0
          have p1 := g9.cell 1 _ rfl
          have q1 := g9.frozen 1
          have p2 := g9.cell 2 _ rfl
          have q2 := g9.frozen 2
          have p3 := g9.cell 3 _ rfl
          have q3 := g9.frozen 3
          have p4 := g9.cell 4 _ rfl
          have q4 := g9.frozen 4
          have HE := Lib.hid E
          clear E
          refine lastC (by kernel_rfl) (by kernel_rfl) N.bx (of_decide_eq_true (by kernel_rfl)) ?_
          refine any_seqI [14] [_] _ _ _ rfl (by kernel_rfl) ?_
          clear N g9
          go_wp2_with fail
          go_meet
          exact ⟨_, _, rfl, rfl, HE.out⟩
      · skip
        go_wp2_with fail
        replace T := T.alloc9
        generalize World.alloc _ _ = W46 at T ⊢
        refine consC (i := 2) (by kernel_rfl) (by kernel_rfl) T.bx rfl (fun K hK => ?_)
        go_wp2_with fail
        refine (CA.out _).mono ?_
        rintro e W47 ⟨rfl, b1⟩
        replace T := T.below b1
        clear b1
        go_wp2_with fail
        refine consC (i := 8) (by kernel_rfl) (by kernel_rfl) T.bx rfl (fun K hK => ?_)
        go_wp2_with fail
        refine (CB.out _).mono ?_
        rintro e W48 ⟨rfl, b1⟩
        replace T := T.below b1
        clear b1
        go_wp2_with fail
        refine takeD 9 (.string ⟨(b.take k).toArray⟩) rfl (by kernel_rfl) (fun _ _ _ h => h) (fun V hV => by go_simp) ?_
        refine consC (i := 10) (by kernel_rfl) (by kernel_rfl) T.bx rfl (fun K hK => ?_)
        go_wp2_with fail
        refine (CC.out _).mono ?_
        rintro e W49 ⟨rfl, b1⟩
        replace T := T.below b1
        clear b1
        go_wp2_with fail
        have g8 := (T.x8 _ rfl).1
        have N := T.put (.string ⟨s.toArray⟩) (.string ⟨(p ++ b).toArray⟩) (.int .i64 (r - (b.length : Int))) (.int .i64 f1) (.bool false)
        have p0 := g8.cell 0 _ rfl
        have q0 := g8.frozen 0
        have p1 := g8.cell 1 _ rfl
        have q1 := g8.frozen 1
        have p2 := g8.cell 2 _ rfl
        have q2 := g8.frozen 2
        have p3 := g8.cell 3 _ rfl
        have q3 := g8.frozen 3
        have p4 := g8.cell 4 _ rfl
        have q4 := g8.frozen 4
        have HN := Lib.hid N
        clear N g8
        refine consC (i := 13) (by kernel_rfl) (by kernel_rfl) T.bx rfl (fun K hK => ?_)
        have HT := Lib.hid T
        clear T
        go_wp2_with fail
        have N := HN.out
        clear p0 q0 p1 q1 p2 q2 p3 q3 p4 q4 HN HT
        change TpO _ (World.setCell _ _ _) _ _ _ _ at N
        generalize World.setCell _ _ _ = WN at N ⊢
        have g9 := N.x9
        have E := N.put (.string ⟨s.toArray⟩) (.string ⟨(p ++ b.take k).toArray⟩) (.int .i64 (r - (k : Int))) (.int .i64 f2) (.bool false)
        have p0 := g9.cell 0 _ rfl
        have q0 := g9.frozen 0
        have p1 := g9.cell 1 _ rfl
        have q1 := g9.frozen 1
        have p2 := g9.cell 2 _ rfl
        have q2 := g9.frozen 2
        have p3 := g9.cell 3 _ rfl
        have q3 := g9.frozen 3
        have p4 := g9.cell 4 _ rfl
        have q4 := g9.frozen 4
        have HE := Lib.hid E
        clear E
        refine lastC (by kernel_rfl) (by kernel_rfl) N.bx (of_decide_eq_true (by kernel_rfl)) ?_
        refine any_seqI [14] [_] _ _ _ rfl (by kernel_rfl) ?_
        clear N g9
        go_wp2_with fail
        go_meet
        exact ⟨_, _, rfl, rfl, HE.out⟩
    · skip
      go_wp2_with fail
      replace T := T.alloc9
      generalize World.alloc _ _ = W50 at T ⊢
      refine fork2 (i := 2) (j := 11) (by kernel_rfl) (by kernel_rfl) T.bx rfl rfl (fun K hK => ?_) (fun K hK => ?_)
      · skip
        go_wp2_with fail
        refine (CA.out _).mono ?_
        rintro e W51 ⟨rfl, b1⟩
        replace T := T.below b1
        clear b1
        go_wp2_with fail
        refine fork2 (i := 8) (j := 11) (by kernel_rfl) (by kernel_rfl) T.bx rfl rfl (fun K hK => ?_) (fun K hK => ?_)
        · skip
          go_wp2_with fail
          refine (CB.out _).mono ?_
          rintro e W52 ⟨rfl, b1⟩
          replace T := T.below b1
          clear b1
          go_wp2_with fail
          refine takeD 9 (.string ⟨(b.take k).toArray⟩) rfl (by kernel_rfl) (fun _ _ _ h => h) (fun V hV => by go_simp) ?_
          refine fork2 (i := 10) (j := 11) (by kernel_rfl) (by kernel_rfl) T.bx rfl rfl (fun K hK => ?_) (fun K hK => ?_)
          · skip
            go_wp2_with fail
            refine (CC.out _).mono ?_
            rintro e W53 ⟨rfl, b1⟩
            replace T := T.below b1
            clear b1
            go_wp2_with fail
            refine consC (i := 11) (by kernel_rfl) (by kernel_rfl) T.bx rfl (fun K hK => ?_)
            go_wp2_with fail
            replace T := T.alloc8
            generalize World.alloc _ _ = W54 at T ⊢
            have g8 := (T.x8 _ rfl).1
            have N := T.put (.string ⟨s.toArray⟩) (.string ⟨(p ++ b).toArray⟩) (.int .i64 (r - (b.length : Int))) (.int .i64 f1) (.bool false)
            have p0 := g8.cell 0 _ rfl
            have q0 := g8.frozen 0
            have p1 := g8.cell 1 _ rfl
            have q1 := g8.frozen 1
            have p2 := g8.cell 2 _ rfl
            have q2 := g8.frozen 2
            have p3 := g8.cell 3 _ rfl
            have q3 := g8.frozen 3
            have p4 := g8.cell 4 _ rfl
            have q4 := g8.frozen 4
            have HN := Lib.hid N
            clear N g8
            refine consC (i := 13) (by kernel_rfl) (by kernel_rfl) T.bx rfl (fun K hK => ?_)
            have HT := Lib.hid T
            clear T
            go_wp2_with fail
            have N := HN.out
            clear p0 q0 p1 q1 p2 q2 p3 q3 p4 q4 HN HT
            change TpO _ (World.setCell _ _ _) _ _ _ _ at N
            generalize World.setCell _ _ _ = WN at N ⊢
            have g9 := N.x9
            have E := N.put (.string ⟨s.toArray⟩) (.string ⟨(p ++ b.take k).toArray⟩) (.int .i64 (r - (k : Int))) (.int .i64 f2) (.bool false)
            have p0 := g9.cell 0 _ rfl
            have q0 := g9.frozen 0
            have p1 := g9.cell 1 _ rfl
            have q1 := g9.frozen 1
            have p2 := g9.cell 2 _ rfl
            have q2 := g9.frozen 2
            have p3 := g9.cell 3 _ rfl
            have q3 := g9.frozen 3
            have p4 := g9.cell 4 _ rfl
            have q4 := g9.frozen 4
            have HE := Lib.hid E
            clear E
            refine lastC (by kernel_rfl) (by kernel_rfl) N.bx (of_decide_eq_true (by kernel_rfl)) ?_
            refine any_seqI [14] [_] _ _ _ rfl (by kernel_rfl) ?_
            clear N g9
            go_wp2_with fail
            go_meet
            exact ⟨_, _, rfl, rfl, HE.out⟩
          · skip
            go_wp2_with fail
            replace T := T.alloc8
            generalize World.alloc _ _ = W55 at T ⊢
            refine consC (i := 10) (by kernel_rfl) (by kernel_rfl) T.bx rfl (fun K hK => ?_)
            go_wp2_with fail
            refine (CC.out _).mono ?_
            rintro e W56 ⟨rfl, b1⟩
            replace T := T.below b1
            clear b1
            go_wp2_with fail
            have g8 := (T.x8 _ rfl).1
            have N := T.put (.string ⟨s.toArray⟩) (.string ⟨(p ++ b).toArray⟩) (.int .i64 (r - (b.length : Int))) (.int .i64 f1) (.bool false)
            have p0 := g8.cell 0 _ rfl
            have q0 := g8.frozen 0
            have p1 := g8.cell 1 _ rfl
            have q1 := g8.frozen 1
            have p2 := g8.cell 2 _ rfl
            have q2 := g8.frozen 2
            have p3 := g8.cell 3 _ rfl
            have q3 := g8.frozen 3
            have p4 := g8.cell 4 _ rfl
            have q4 := g8.frozen 4
            have HN := Lib.hid N
            clear N g8
            refine consC (i := 13) (by kernel_rfl) (by kernel_rfl) T.bx rfl (fun K hK => ?_)
            have HT := Lib.hid T
            clear T
            go_wp2_with fail
            have N := HN.out
            clear p0 q0 p1 q1 p2 q2 p3 q3 p4 q4 HN HT
            change TpO _ (World.setCell _ _ _) _ _ _ _ at N
            generalize World.setCell _ _ _ = WN at N ⊢
            have g9 := N.x9
            have E := N.put (.string ⟨s.toArray⟩) (.string ⟨(p ++ b.take k).toArray⟩) (.int .i64 (r - (k : Int))) (.int .i64 f2) (.bool false)
            have p0 := g9.cell 0 _ rfl
            have q0 := g9.frozen 0
            have p1 := g9.cell 1 _ rfl
            have q1 := g9.frozen 1
            have p2 := g9.cell 2 _ rfl
            have q2 := g9.frozen 2
            have p3 := g9.cell 3 _ rfl
            have q3 := g9.frozen 3
            have p4 := g9.cell 4 _ rfl
            have q4 := g9.frozen 4
            have HE := Lib.hid E
            clear E
            refine lastC (by kernel_rfl) (by kernel_rfl) N.bx (of_decide_eq_true (by kernel_rfl)) ?_
            refine any_seqI [14] [_] _ _ _ rfl (by kernel_rfl) ?_
            clear N g9
            go_wp2_with fail
            go_meet
            exact ⟨_, _, rfl, rfl, HE.out⟩
        · skip
          go_wp2_with fail
          replace T := T.alloc8
          generalize World.alloc _ _ = W57 at T ⊢
          refine consC (i := 8) (by kernel_rfl) (by kernel_rfl) T.bx rfl (fun K hK => ?_)
          go_wp2_with fail
          refine (CB.out _).mono ?_
          rintro e W58 ⟨rfl, b1⟩
          replace T := T.below b1
          clear b1
          go_wp2_with fail
          refine takeD 9 (.string ⟨(b.take k).toArray⟩) rfl (by kernel_rfl) (fun _ _ _ h => h) (fun V hV => by go_simp) ?_
          refine consC (i := 10) (by kernel_rfl) (by kernel_rfl) T.bx rfl (fun K hK => ?_)
          go_wp2_with fail
          refine (CC.out _).mono ?_
          rintro e W59 ⟨rfl, b1⟩
          replace T := T.below b1
          clear b1
          go_wp2_with fail
          have g8 := (T.x8 _ rfl).1
          have N := T.put (.string ⟨s.toArray⟩) (.string ⟨(p ++ b).toArray⟩) (.int .i64 (r - (b.length : Int))) (.int .i64 f1) (.bool false)
          have p0 := g8.cell 0 _ rfl
          have q0 := g8.frozen 0
          have p1 := g8.cell 1 _ rfl
          have q1 := g8.frozen 1
          have p2 := g8.cell 2 _ rfl
          have q2 := g8.frozen 2
          have p3 := g8.cell 3 _ rfl
          have q3 := g8.frozen 3
          have p4 := g8.cell 4 _ rfl
          have q4 := g8.frozen 4
          have HN := Lib.hid N
          clear N g8
          refine consC (i := 13) (by kernel_rfl) (by kernel_rfl) T.bx rfl (fun K hK => ?_)
          have HT := Lib.hid T
          clear T
          go_wp2_with fail
          have N := HN.out
          clear p0 q0 p1 q1 p2 q2 p3 q3 p4 q4 HN HT
          change TpO _ (World.setCell _ _ _) _ _ _ _ at N
          generalize World.setCell _ _ _ = WN at N ⊢
          have g9 := N.x9
          have E := N.put (.string ⟨s.toArray⟩) (.string ⟨(p ++ b.take k).toArray⟩) (.int .i64 (r - (k : Int))) (.int .i64 f2) (.bool false)
          have p0 := g9.cell 0 _ rfl
          have q0 := g9.frozen 0
          have p1 := g9.cell 1 _ rfl
          have q1 := g9.frozen 1
          have p2 := g9.cell 2 _ rfl
          have q2 := g9.frozen 2
          have p3 := g9.cell 3 _ rfl
          have q3 := g9.frozen 3
          have p4 := g9.cell 4 _ rfl
          have q4 := g9.frozen 4
          have HE := Lib.hid E
          clear E
          refine lastC (by kernel_rfl) (by kernel_rfl) N.bx (of_decide_eq_true (by kernel_rfl)) ?_
          refine any_seqI [14] [_] _ _ _ rfl (by kernel_rfl) ?_
          clear N g9
          go_wp2_with fail
          go_meet
          exact ⟨_, _, rfl, rfl, HE.out⟩
      · skip
        go_wp2_with fail
        replace T := T.alloc8
        generalize World.alloc _ _ = W60 at T ⊢
        refine consC (i := 2) (by kernel_rfl) (by kernel_rfl) T.bx rfl (fun K hK => ?_)
        go_wp2_with fail
        refine (CA.out _).mono ?_
        rintro e W61 ⟨rfl, b1⟩
        replace T := T.below b1
        clear b1
        go_wp2_with fail
        refine consC (i := 8) (by kernel_rfl) (by kernel_rfl) T.bx rfl (fun K hK => ?_)
        go_wp2_with fail
        refine (CB.out _).mono ?_
        rintro e W62 ⟨rfl, b1⟩
        replace T := T.below b1
        clear b1
        go_wp2_with fail
        refine takeD 9 (.string ⟨(b.take k).toArray⟩) rfl (by kernel_rfl) (fun _ _ _ h => h) (fun V hV => by go_simp) ?_
        refine consC (i := 10) (by kernel_rfl) (by kernel_rfl) T.bx rfl (fun K hK => ?_)
        go_wp2_with fail
        refine (CC.out _).mono ?_
        rintro e W63 ⟨rfl, b1⟩
        replace T := T.below b1
        clear b1
        go_wp2_with fail
        have g8 := (T.x8 _ rfl).1
        have N := T.put (.string ⟨s.toArray⟩) (.string ⟨(p ++ b).toArray⟩) (.int .i64 (r - (b.length : Int))) (.int .i64 f1) (.bool false)
        have p0 := g8.cell 0 _ rfl
        have q0 := g8.frozen 0
        have p1 := g8.cell 1 _ rfl
        have q1 := g8.frozen 1
        have p2 := g8.cell 2 _ rfl
        have q2 := g8.frozen 2
        have p3 := g8.cell 3 _ rfl
        have q3 := g8.frozen 3
        have p4 := g8.cell 4 _ rfl
        have q4 := g8.frozen 4
        have HN := Lib.hid N
        clear N g8
        refine consC (i := 13) (by kernel_rfl) (by kernel_rfl) T.bx rfl (fun K hK => ?_)
        have HT := Lib.hid T
        clear T
        go_wp2_with fail
        have N := HN.out
        clear p0 q0 p1 q1 p2 q2 p3 q3 p4 q4 HN HT
        change TpO _ (World.setCell _ _ _) _ _ _ _ at N
        generalize World.setCell _ _ _ = WN at N ⊢
        have g9 := N.x9
        have E := N.put (.string ⟨s.toArray⟩) (.string ⟨(p ++ b.take k).toArray⟩) (.int .i64 (r - (k : Int))) (.int .i64 f2) (.bool false)
        have p0 := g9.cell 0 _ rfl
        have q0 := g9.frozen 0
        have p1 := g9.cell 1 _ rfl
        have q1 := g9.frozen 1
        have p2 := g9.cell 2 _ rfl
        have q2 := g9.frozen 2
        have p3 := g9.cell 3 _ rfl
        have q3 := g9.frozen 3
        have p4 := g9.cell 4 _ rfl
        have q4 := g9.frozen 4
        have HE := Lib.hid E
        clear E
        refine lastC (by kernel_rfl) (by kernel_rfl) N.bx (of_decide_eq_true (by kernel_rfl)) ?_
        refine any_seqI [14] [_] _ _ _ rfl (by kernel_rfl) ?_
        clear N g9
        go_wp2_with fail
        go_meet
        exact ⟨_, _, rfl, rfl, HE.out⟩
  obtain ⟨bx, cy, rfl, rfl, E⟩ := hcut
  clear X1 R1 B1 b1 CA CB CC
  have E8 := E.x8
  have E9 := E.x9
  have ER := E.br
  have EB := E.bel
  have l9 := E.l9
  have hcy : ¬ cy = w.heap.size + 1 := by omega
  have u0 := E8.cell 0 _ rfl
  have u1 := E8.cell 1 _ rfl
  have u2 := E8.cell 2 _ rfl
  have u3 := E8.cell 3 _ rfl
  have u4 := E8.cell 4 _ rfl
  have fu0 := E8.frozen 0
  have fu1 := E8.frozen 1
  have fu2 := E8.frozen 2
  have fu3 := E8.frozen 3
  have fu4 := E8.frozen 4
  have v0 := E9.cell 0 _ rfl
  have v1 := E9.cell 1 _ rfl
  have v2 := E9.cell 2 _ rfl
  have v3 := E9.cell 3 _ rfl
  have v4 := E9.cell 4 _ rfl
  have fv0 := E9.frozen 0
  have fv1 := E9.frozen 1
  have fv2 := E9.frozen 2
  have fv3 := E9.frozen 3
  have fv4 := E9.frozen 4
  have y0 := ER.cell 0 _ rfl
  have y1 := ER.cell 1 _ rfl
  have y2 := ER.cell 2 _ rfl
  have y3 := ER.cell 3 _ rfl
  have y4 := ER.cell 4 _ rfl
  have fy0 := ER.frozen 0
  have fy1 := ER.frozen 1
  have fy2 := ER.frozen 2
  have fy3 := ER.frozen 3
  have fy4 := ER.frozen 4
  by_cases hkk : k = b.length
  · skip
    have hq := run_tpneq wc s (p ++ b.take k) s (p ++ b) (r - (k : Int)) f2 (r - (b.length : Int)) f1 false false
    have ht : b.take k = b := by rw [hkk, List.take_length]
    have hf : f2 = f1 := HQ.out hkk
    rw [decide_eq_true (by rw [ht, hf, hkk])] at hq
    go_wp2_with fail
    exact bodyPost_ret (results_tp2 Try.results56 _ _ (w.heap.size + 1) _ rfl rfl (ER.put5 _ _ _ _ _)) rfl ⟨rfl, bel_put5 EB (by omega) _ _ _ _ _⟩
  · skip
    have hq := run_tpneq wc s (p ++ b.take k) s (p ++ b) (r - (k : Int)) f2 (r - (b.length : Int)) f1 false false
    rw [decide_eq_false (HNE.out hkk)] at hq
    have hle : w.heap.size ≤ cy := by omega
    go_wp2_with fail
    exact bodyPost_ret (results_tp2 Try.results56 _ _ (w.heap.size + 1) _ rfl rfl ((ER.other cy 4 _ hcy).put5 _ _ _ _ _)) rfl ⟨rfl, bel_put5 (EB.setCell (p := ⟨cy, 4, none⟩) hle _) (by omega) _ _ _ _ _⟩
set_option maxHeartbeats 4000000 in
theorem pwrite16_any (s p rec : List UInt8) (r f : Int) (o : Bool) (hg : goodW (s, p, r, f, o)) (hl : rec.length ≤ 9223372036854775807) (w : World) :
    Calls Try.prog 56 #[tpV (s, p, r, f, o), .string ⟨rec.toArray⟩] w fun e w' => e = .returned (.tuple #[tpV (writeT (s, p, r, f, o) rec).1, .int .i64 (writeT (s, p, r, f, o) rec).2]) ∧ Below w.heap.size w w' := by
  obtain ⟨⟨g1, g2⟩, ⟨g3, g4⟩, g5, g6⟩ := hg
  simp only at g1 g2 g3 g4 g5 g6
  unfold writeT
  simp only
  cases o
  · rw [if_neg (by simp)]
    by_cases h1 : 65535 < rec.length
    · rw [if_pos h1]
      unfold tpV tpC
      simp only
      have T := fun W => text_big rec hl h1 W
      have X := (SBox.new w 23 #[.string ⟨s.toArray⟩, .string ⟨p.toArray⟩, .int .i64 r, .int .i64 f, .bool false]).alloc (.cells #[.string ⟨#[]⟩, .string ⟨#[]⟩, .int .i64 0, .int .i64 0, .bool false] 23)
      have R := sbox2 w (.cells #[.string ⟨s.toArray⟩, .string ⟨p.toArray⟩, .int .i64 r, .int .i64 f, .bool false] 23) 23 #[.string ⟨#[]⟩, .string ⟨#[]⟩, .int .i64 0, .int .i64 0, .bool false]
      have B0 := bel2 w (.cells #[.string ⟨s.toArray⟩, .string ⟨p.toArray⟩, .int .i64 r, .int .i64 f, .bool false] 23) (.cells #[.string ⟨#[]⟩, .string ⟨#[]⟩, .int .i64 0, .int .i64 0, .bool false] 23)
      go_enter Try.func56, Try.ntmps56
      go_wp2_with fail
      refine (T _).mono ?_
      rintro e w1 ⟨rfl, b1⟩
      have X1 := X.below b1
      have R1 := R.below b1
      have B1 := bel_trans B0 b1
      have x0 := X1.cell 0 _ rfl
      have x1 := X1.cell 1 _ rfl
      have x2 := X1.cell 2 _ rfl
      have x3 := X1.cell 3 _ rfl
      have x4 := X1.cell 4 _ rfl
      have fx0 := X1.frozen 0
      have fx1 := X1.frozen 1
      have fx2 := X1.frozen 2
      have fx3 := X1.frozen 3
      have fx4 := X1.frozen 4
      have r0 := R1.cell 0 _ rfl
      have r1 := R1.cell 1 _ rfl
      have r2 := R1.cell 2 _ rfl
      have r3 := R1.cell 3 _ rfl
      have r4 := R1.cell 4 _ rfl
      have fr0 := R1.frozen 0
      have fr1 := R1.frozen 1
      have fr2 := R1.frozen 2
      have fr3 := R1.frozen 3
      have fr4 := R1.frozen 4
      clear X R B0
      go_wp2_with fail
      exact bodyPost_ret (results_tp2 Try.results56 _ _ (w.heap.size + 1) _ rfl rfl (R1.put5 _ _ _ _ _)) rfl ⟨rfl, bel_put5 B1 (by omega) _ _ _ _ _⟩
    · rw [if_neg h1]
      obtain ⟨b, hb⟩ : ∃ b, Lm.lenL rec.length ++ rec = b := ⟨_, rfl⟩
      have hll := Lm.lenL_le rec.length
      have hbl : b.length ≤ 65538 := by rw [← hb, List.length_append]; omega
      rw [hb]
      by_cases h2 : r < (b.length : Int)
      · rw [if_pos h2]
        unfold tpV tpC
        simp only
        have T := fun W => text_ok rec h1 W
        rw [hb] at T
        clear hb hll hl
        have X := (SBox.new w 23 #[.string ⟨s.toArray⟩, .string ⟨p.toArray⟩, .int .i64 r, .int .i64 f, .bool false]).alloc (.cells #[.string ⟨#[]⟩, .string ⟨#[]⟩, .int .i64 0, .int .i64 0, .bool false] 23)
        have R := sbox2 w (.cells #[.string ⟨s.toArray⟩, .string ⟨p.toArray⟩, .int .i64 r, .int .i64 f, .bool false] 23) 23 #[.string ⟨#[]⟩, .string ⟨#[]⟩, .int .i64 0, .int .i64 0, .bool false]
        have B0 := bel2 w (.cells #[.string ⟨s.toArray⟩, .string ⟨p.toArray⟩, .int .i64 r, .int .i64 f, .bool false] 23) (.cells #[.string ⟨#[]⟩, .string ⟨#[]⟩, .int .i64 0, .int .i64 0, .bool false] 23)
        go_enter Try.func56, Try.ntmps56
        go_wp2_with fail
        refine (T _).mono ?_
        rintro e w1 ⟨rfl, b1⟩
        have X1 := X.below b1
        have R1 := R.below b1
        have B1 := bel_trans B0 b1
        have x0 := X1.cell 0 _ rfl
        have x1 := X1.cell 1 _ rfl
        have x2 := X1.cell 2 _ rfl
        have x3 := X1.cell 3 _ rfl
        have x4 := X1.cell 4 _ rfl
        have fx0 := X1.frozen 0
        have fx1 := X1.frozen 1
        have fx2 := X1.frozen 2
        have fx3 := X1.frozen 3
        have fx4 := X1.frozen 4
        have r0 := R1.cell 0 _ rfl
        have r1 := R1.cell 1 _ rfl
        have r2 := R1.cell 2 _ rfl
        have r3 := R1.cell 3 _ rfl
        have r4 := R1.cell 4 _ rfl
        have fr0 := R1.frozen 0
        have fr1 := R1.frozen 1
        have fr2 := R1.frozen 2
        have fr3 := R1.frozen 3
        have fr4 := R1.frozen 4
        clear X R B0
        go_wp2_with fail
        exact bodyPost_ret (results_tp2 Try.results56 _ _ (w.heap.size + 1) _ rfl rfl (R1.put5 _ _ _ _ _)) rfl ⟨rfl, bel_put5 B1 (by omega) _ _ _ _ _⟩
      · rw [if_neg h2]
        by_cases h3 : 0 ≤ f ∧ f < (b.length : Int)
        · rw [if_pos h3]
          have hkl : (b.take f.toNat).length = f.toNat := by rw [List.length_take]; omega
          have := pwrite16_on s p b rec r f f.toNat (by unfold powT; rw [if_neg (by omega), if_pos h3.2]; omega) (by omega) h1 hb hbl g2 g3 g4 g6 h2 w
          rw [if_neg (by omega), if_neg (by omega)] at this
          unfold laidT at this
          simp only [hkl] at this
          rw [if_pos h3.1, show ((f.toNat : Nat) : Int) = f by omega, Int.sub_self] at this
          exact this
        · rw [if_neg h3]
          have := pwrite16_on s p b rec r f b.length (by unfold powT; by_cases h4 : f < 0 <;> simp only [h4, if_true, if_false]; exact if_neg (by omega)) (Nat.le_refl _) h1 hb hbl g2 g3 g4 g6 h2 w
          rw [if_pos rfl, if_pos rfl] at this
          exact this
  · rw [if_pos rfl]
    unfold tpV tpC
    simp only
    have T := fun W => text_any rec hl W
    have X := (SBox.new w 23 #[.string ⟨s.toArray⟩, .string ⟨p.toArray⟩, .int .i64 r, .int .i64 f, .bool true]).alloc (.cells #[.string ⟨#[]⟩, .string ⟨#[]⟩, .int .i64 0, .int .i64 0, .bool false] 23)
    have R := sbox2 w (.cells #[.string ⟨s.toArray⟩, .string ⟨p.toArray⟩, .int .i64 r, .int .i64 f, .bool true] 23) 23 #[.string ⟨#[]⟩, .string ⟨#[]⟩, .int .i64 0, .int .i64 0, .bool false]
    have B0 := bel2 w (.cells #[.string ⟨s.toArray⟩, .string ⟨p.toArray⟩, .int .i64 r, .int .i64 f, .bool true] 23) (.cells #[.string ⟨#[]⟩, .string ⟨#[]⟩, .int .i64 0, .int .i64 0, .bool false] 23)
    go_enter Try.func56, Try.ntmps56
    go_wp2_with fail
    refine (T _).mono ?_
    rintro e w1 ⟨rfl, b1⟩
    have X1 := X.below b1
    have R1 := R.below b1
    have B1 := bel_trans B0 b1
    have x0 := X1.cell 0 _ rfl
    have x1 := X1.cell 1 _ rfl
    have x2 := X1.cell 2 _ rfl
    have x3 := X1.cell 3 _ rfl
    have x4 := X1.cell 4 _ rfl
    have fx0 := X1.frozen 0
    have fx1 := X1.frozen 1
    have fx2 := X1.frozen 2
    have fx3 := X1.frozen 3
    have fx4 := X1.frozen 4
    have r0 := R1.cell 0 _ rfl
    have r1 := R1.cell 1 _ rfl
    have r2 := R1.cell 2 _ rfl
    have r3 := R1.cell 3 _ rfl
    have r4 := R1.cell 4 _ rfl
    have fr0 := R1.frozen 0
    have fr1 := R1.frozen 1
    have fr2 := R1.frozen 2
    have fr3 := R1.frozen 3
    have fr4 := R1.frozen 4
    clear X R B0
    go_wp2_with fail
    exact bodyPost_ret (results_tp2 Try.results56 _ _ (w.heap.size + 1) _ rfl rfl (R1.put5 _ _ _ _ _)) rfl ⟨rfl, bel_put5 B1 (by omega) _ _ _ _ _⟩
end Go.Proofs.Ytngllioidfffdaa
