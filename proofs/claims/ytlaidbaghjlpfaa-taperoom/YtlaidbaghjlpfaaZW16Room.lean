/-
  The walk of TapeRoom.
-/
import Derived.Test.YtlaidbaghjlpfaaZActs16
import Derived.Deep.CutRange
namespace Go.Proofs.Ytlaidbaghjlpfaa
set_option maxRecDepth 100000
open Go.RowKit
set_option linter.unusedVariables false
attribute [local go_sem] ba_size ba_append
set_option maxHeartbeats 8000000 in
theorem room16_walk (l : List Ac) (v : Value) (room : Int) (w : World) (hT : IsActs w v l) (hG : ∀ x ∈ l, goodA x) (hr1 : -9223372036854775808 ≤ room) (hr2 : room ≤ 9223372036854775807) : Calls Try.prog 5 #[.int .i64 room, v] w fun e w' => e = .returned (.bool true) ∧ Below w.heap.size w w' := by
  obtain ⟨a, cap, rfl, k1, k2, k3, HC⟩ := hT.some_at
  obtain ⟨n, hn⟩ : ∃ n, l.length = n := ⟨_, rfl⟩
  have HN := Lib.hid hn
  rw [hn] at k1 k3 ⊢
  have HG := Lib.hid hG
  clear hT hn hG
  by_cases hneg : room < 0
  · have hnew : newT room = (([], [], 0, 0, false), 1) := by unfold newT; rw [if_pos hneg]
    have C1 := fun W => pn16 room hnew W
    clear hnew
    go_enter Try.func5, Try.ntmps5
    go_wp2_with fail
    refine (shown16_any _).mono ?_
    rintro e w_1 ⟨rfl, b_1⟩
    have B1 := (Below.refl w.heap.size w).trans (b_1.mono (Below.refl w.heap.size w).size)
    clear b_1
    go_wp2_with fail
    refine (C1 _).mono ?_
    rintro e w_2 ⟨rfl, b_2⟩
    have B2 := B1.trans (b_2.mono B1.size)
    clear B1
    clear b_2
    go_wp2_with fail
    go_ret
    exact ⟨rfl, bel_trans B2 ((Below.refl _ _).alloc (Nat.le_refl _) _)⟩
  · skip
    obtain ⟨hnew, J0⟩ := jr_new room hneg
    have C1 := fun W => pn16 room hnew W
    have HJ0 := Lib.hid J0
    clear hnew J0
    go_enter Try.func5, Try.ntmps5
    go_wp2_with fail
    refine (shown16_any _).mono ?_
    rintro e w_1 ⟨rfl, b_1⟩
    have B1 := (Below.refl w.heap.size w).trans (b_1.mono (Below.refl w.heap.size w).size)
    clear b_1
    go_wp2_with fail
    refine (C1 _).mono ?_
    rintro e w_2 ⟨rfl, b_2⟩
    have B2 := B1.trans (b_2.mono B1.size)
    clear B1
    clear b_2
    have X_t := SBox.new w_2 23 #[.string ⟨#[]⟩, .string ⟨#[]⟩, .int .i64 room, .int .i64 (-1), .bool false]
    have l_t := B2.size
    have B3 := B2.alloc B2.size (.cells #[.string ⟨#[]⟩, .string ⟨#[]⟩, .int .i64 room, .int .i64 (-1), .bool false] 23)
    clear B2
    obtain ⟨b6, hb6⟩ : ∃ b6, w_2.heap.size = b6 := ⟨_, rfl⟩
    have HL6 : w.heap.size ≤ b6 := by omega
    have BT := Lib.hid B3
    have XT := Lib.hid X_t
    clear B3 X_t C1
    go_wp2_with fail
    have XT1 := XT.out
    have BT1 := BT.out
    rw [hb6] at XT1
    clear hb6 BT XT
    go_loopw [8] (fun i wr => ∃ (k : Nat) (s p : List UInt8) (r f : Int) (o : Bool), k ≤ n ∧ k ≤ 200 ∧ i = .int .i64 k ∧ Below w.heap.size w wr ∧ SBox wr b6 23 #[.string ⟨s.toArray⟩, .string ⟨p.toArray⟩, .int .i64 r, .int .i64 f, .bool o] ∧ Hid (Jr k room (s, p, r, f, o))) (fun i _ => n - (intOf i).toNat)
    case atStart => exact ⟨0, [], [], room, -1, false, Nat.zero_le _, by omega, rfl, BT1, XT1, HJ0.out⟩
    case round =>
      obtain ⟨k, s, p, r, f, o, hk, hk2, rfl, hB, hX, HJ⟩ := hrel
      by_cases hlt : k < n
      · have i0 : (k : Int) < (n : Int) := by omega
        by_cases hlt2 : k < 200
        · have i2 : (k : Int) < (200 : Int) := by omega
          have hk1 : k < l.length := by rw [HN.out]; exact hlt
          obtain ⟨bb, off, rfl, hblt, hcell⟩ := HC.out k hk1
          have hga := HG.out l[k] (List.getElem_mem hk1)
          obtain ⟨⟨x0, x1, x2⟩, hx⟩ : ∃ x, l[k] = x := ⟨_, rfl⟩
          rw [hx] at hcell hga
          have q0 := hcell 0 _ rfl
          have q1 := hcell 1 _ rfl
          have q2 := hcell 2 _ rfl
          simp only [Nat.add_zero] at q0 q1 q2
          obtain ⟨-, ⟨ga1, ga2⟩, ga3⟩ := hga
          simp only at ga1 ga2 ga3
          have HCC : Hid (∀ V, Below w.heap.size w V → V.cell? ⟨bb, off + k * 3, none⟩ = some (.int .i64 x0) ∧ V.cell? ⟨bb, off + k * 3 + 1, none⟩ = some (.int .i64 x1) ∧ V.cell? ⟨bb, off + k * 3 + 2, none⟩ = some (.string ⟨x2.toArray⟩)) := fun V hV => ⟨(hV.cell (p := ⟨bb, off + k * 3, none⟩) hblt).trans q0, (hV.cell (p := ⟨bb, off + k * 3 + 1, none⟩) hblt).trans q1, (hV.cell (p := ⟨bb, off + k * 3 + 2, none⟩) hblt).trans q2⟩
          clear q0 q1 q2 hcell hx HC
          obtain ⟨c0, c1, c2⟩ := HCC.out _ hB
          have hgood := HJ.out.good (by omega) hr2
          by_cases e1 : x0 = 1
          · subst e1
            obtain ⟨⟨⟨s', p', r', f', o'⟩, E⟩, hW⟩ : ∃ x, writeT (s, p, r, f, o) x2 = x := ⟨_, rfl⟩
            have C := Lib.hid (fun W => pw16 hgood (by omega) hW W)
            have J2 := jr_write HJ.out x2
            rw [hW] at J2
            have HJ2 := Lib.hid J2
            clear hW J2 hgood
            go_wp2_with fail
            refine wp_region_any (by kernel_rfl) ?_
            change wpAny _ _ _ _ _ _ _ (World.drew _)
            generalize hwd : World.drew _ = wd
            have X := hX.drew
            have B := hB.drew
            rw [hwd] at X B
            clear hwd hB hX c0 c1 c2
            refine any_of_C (C := fun V => SBox V b6 23 #[.string ⟨s.toArray⟩, .string ⟨p.toArray⟩, .int .i64 r, .int .i64 f, .bool o] ∧ V.cell? ⟨bb, off + k * 3 + 2, none⟩ = some (.string ⟨x2.toArray⟩)) 10 _ _ _ _ ?_
            refine takeD 0 (.agg #[.string ⟨s.toArray⟩, .string ⟨p.toArray⟩, .int .i64 r, .int .i64 f, .bool o]) rfl (by kernel_rfl) (fun _ _ _ h => h) (fun V hV => by obtain ⟨hV, cz⟩ := hV; have y0 := hV.cell 0 _ rfl; have y1 := hV.cell 1 _ rfl; have y2 := hV.cell 2 _ rfl; have y3 := hV.cell 3 _ rfl; have y4 := hV.cell 4 _ rfl; go_simp) ?_
            refine takeD 1 (.slice (some ⟨bb, off, none⟩) n cap) rfl (by kernel_rfl) (fun _ _ _ h => h) (fun V hV => by obtain ⟨hV, cz⟩ := hV; have y0 := hV.cell 0 _ rfl; have y1 := hV.cell 1 _ rfl; have y2 := hV.cell 2 _ rfl; have y3 := hV.cell 3 _ rfl; have y4 := hV.cell 4 _ rfl; go_simp) ?_
            refine takeD 2 (.int .i64 (k : Int)) rfl (by kernel_rfl) (fun _ _ _ h => h) (fun V hV => by obtain ⟨hV, cz⟩ := hV; have y0 := hV.cell 0 _ rfl; have y1 := hV.cell 1 _ rfl; have y2 := hV.cell 2 _ rfl; have y3 := hV.cell 3 _ rfl; have y4 := hV.cell 4 _ rfl; go_simp) ?_
            refine takeD 3 (.pointer (some ⟨bb, off + k * 3, none⟩)) rfl (by kernel_rfl) (fun _ _ _ h => h) (fun V hV => by obtain ⟨hV, cz⟩ := hV; have y0 := hV.cell 0 _ rfl; have y1 := hV.cell 1 _ rfl; have y2 := hV.cell 2 _ rfl; have y3 := hV.cell 3 _ rfl; have y4 := hV.cell 4 _ rfl; go_simp) ?_
            refine takeD 4 (.pointer (some ⟨bb, off + k * 3 + 2, none⟩)) rfl (by kernel_rfl) (fun _ _ _ h => h) (fun V hV => by obtain ⟨hV, cz⟩ := hV; have y0 := hV.cell 0 _ rfl; have y1 := hV.cell 1 _ rfl; have y2 := hV.cell 2 _ rfl; have y3 := hV.cell 3 _ rfl; have y4 := hV.cell 4 _ rfl; go_simp) ?_
            refine takeD 5 (.string ⟨x2.toArray⟩) rfl (by kernel_rfl) (fun _ _ _ h => h) (fun V hV => by obtain ⟨hV, cz⟩ := hV; have y0 := hV.cell 0 _ rfl; have y1 := hV.cell 1 _ rfl; have y2 := hV.cell 2 _ rfl; have y3 := hV.cell 3 _ rfl; have y4 := hV.cell 4 _ rfl; go_simp) ?_
            refine consC (i := 6) (by kernel_rfl) (by kernel_rfl) ⟨X, (HCC.out _ B).2.2⟩ rfl (fun K hK => ?_)
            go_wp2_with fail
            refine (C.out _).mono ?_
            rintro e W1 ⟨rfl, b1⟩
            replace X := X.below b1
            replace B := B.trans (b1.mono B.size)
            clear b1
            go_wp2_with fail
            refine takeD 7 (.tuple #[.agg #[.string ⟨s'.toArray⟩, .string ⟨p'.toArray⟩, .int .i64 r', .int .i64 f', .bool o'], .int .i64 E]) rfl (by kernel_rfl) (fun _ _ _ h => h) (fun V hV => by go_simp) ?_
            refine takeD 8 (.agg #[.string ⟨s'.toArray⟩, .string ⟨p'.toArray⟩, .int .i64 r', .int .i64 f', .bool o']) rfl (by kernel_rfl) (fun _ _ _ h => h) (fun V hV => by go_simp) ?_
            refine fork2 (i := 9) (j := 10) (by kernel_rfl) (by kernel_rfl) ⟨X, (HCC.out _ B).2.2⟩ rfl rfl (fun K hK => ?_) (fun K hK => ?_)
            · skip
              go_wp2_with fail
              refine lastC (by kernel_rfl) (by kernel_rfl) ⟨X, (HCC.out _ B).2.2⟩ (of_decide_eq_true (by kernel_rfl)) ?_
              refine any_seqI [10] [_] _ _ _ rfl (by kernel_rfl) ?_
              have u0 := X.cell 0 _ rfl
              have fu0 := X.frozen 0
              have u1 := X.cell 1 _ rfl
              have fu1 := X.frozen 1
              have u2 := X.cell 2 _ rfl
              have fu2 := X.frozen 2
              have u3 := X.cell 3 _ rfl
              have fu3 := X.frozen 3
              have u4 := X.cell 4 _ rfl
              have fu4 := X.frozen 4
              obtain ⟨j1, j2, j3, j4, j5⟩ := HJ2.out
              simp only at j1 j2 j3 j4 j5
              have t1 : ¬ r' < 0 := by omega
              have t2 : wrap64 (r' + (s'.length : Int)) = r' + (s'.length : Int) := by unfold wrap64; omega
              have t3 : wrap64 (r' + (s'.length : Int) + (p'.length : Int)) = room := by unfold wrap64; omega
              clear j3 j4 j5
              go_wp2_with fail
              go_roundw
              case rel => exact ⟨k + 1, s', p', r', f', o', by omega, by omega, by first | go_num | simp, bel_put5 B HL6 _ _ _ _ _, X.put5 _ _ _ _ _, HJ2.out⟩
              case measure => simp [intOf]; omega
            · skip
              have u0 := X.cell 0 _ rfl
              have fu0 := X.frozen 0
              have u1 := X.cell 1 _ rfl
              have fu1 := X.frozen 1
              have u2 := X.cell 2 _ rfl
              have fu2 := X.frozen 2
              have u3 := X.cell 3 _ rfl
              have fu3 := X.frozen 3
              have u4 := X.cell 4 _ rfl
              have fu4 := X.frozen 4
              go_wp2_with fail
              refine .inl ⟨by kernel_rfl, ?_⟩
              refine any_seqI [9] [_] _ _ _ rfl (by kernel_rfl) ?_
              obtain ⟨j1, j2, j3, j4, j5⟩ := HJ2.out
              simp only at j1 j2 j3 j4 j5
              have t1 : ¬ r' < 0 := by omega
              have t2 : wrap64 (r' + (s'.length : Int)) = r' + (s'.length : Int) := by unfold wrap64; omega
              have t3 : wrap64 (r' + (s'.length : Int) + (p'.length : Int)) = room := by unfold wrap64; omega
              clear j3 j4 j5
              go_wp2_with fail
              go_roundw
              case rel => exact ⟨k + 1, s', p', r', f', o', by omega, by omega, by first | go_num | simp, bel_put5 B HL6 _ _ _ _ _, X.put5 _ _ _ _ _, HJ2.out⟩
              case measure => simp [intOf]; omega
          · have n1 : (x0 == 1) = false := beq_eq_false_iff_ne.2 e1
            by_cases e2 : x0 = 2
            · subst e2
              obtain ⟨⟨⟨s', p', r', f', o'⟩, E⟩, hW⟩ : ∃ x, syncT (s, p, r, f, o) = x := ⟨_, rfl⟩
              have C := Lib.hid (fun W => ps16 hgood hW W)
              have J2 := jr_sync HJ.out
              rw [hW] at J2
              have HJ2 := Lib.hid J2
              clear hW J2 hgood
              have u0 := hX.cell 0 _ rfl
              have fu0 := hX.frozen 0
              have u1 := hX.cell 1 _ rfl
              have fu1 := hX.frozen 1
              have u2 := hX.cell 2 _ rfl
              have fu2 := hX.frozen 2
              have u3 := hX.cell 3 _ rfl
              have fu3 := hX.frozen 3
              have u4 := hX.cell 4 _ rfl
              have fu4 := hX.frozen 4
              go_wp2_with fail
              refine (C.out _).mono ?_
              rintro e W1 ⟨rfl, b1⟩
              have X := hX.below b1
              have B := hB.trans (b1.mono hB.size)
              clear b1 hX hB c0 c1 c2 u0 u1 u2 u3 u4 fu0 fu1 fu2 fu3 fu4
              have u0 := X.cell 0 _ rfl
              have fu0 := X.frozen 0
              have u1 := X.cell 1 _ rfl
              have fu1 := X.frozen 1
              have u2 := X.cell 2 _ rfl
              have fu2 := X.frozen 2
              have u3 := X.cell 3 _ rfl
              have fu3 := X.frozen 3
              have u4 := X.cell 4 _ rfl
              have fu4 := X.frozen 4
              obtain ⟨j1, j2, j3, j4, j5⟩ := HJ2.out
              simp only at j1 j2 j3 j4 j5
              have t1 : ¬ r' < 0 := by omega
              have t2 : wrap64 (r' + (s'.length : Int)) = r' + (s'.length : Int) := by unfold wrap64; omega
              have t3 : wrap64 (r' + (s'.length : Int) + (p'.length : Int)) = room := by unfold wrap64; omega
              clear j3 j4 j5
              go_wp2_with fail
              go_roundw
              case rel => exact ⟨k + 1, s', p', r', f', o', by omega, by omega, by first | go_num | simp, bel_put5 B HL6 _ _ _ _ _, X.put5 _ _ _ _ _, HJ2.out⟩
              case measure => simp [intOf]; omega
            · have n2 : (x0 == 2) = false := beq_eq_false_iff_ne.2 e2
              by_cases e3 : x0 = 3
              · subst e3
                obtain ⟨⟨s', p', r', f', o'⟩, hW⟩ : ∃ x, armT (s, p, r, f, o) x1 = x := ⟨_, rfl⟩
                have C := Lib.hid (fun W => pa16 hW W)
                have J2 := jr_arm HJ.out x1 ga2
                rw [hW] at J2
                have HJ2 := Lib.hid J2
                clear hW J2 hgood
                go_wp2_with fail
                refine wp_region_any (by kernel_rfl) ?_
                change wpAny _ _ _ _ _ _ _ (World.drew _)
                generalize hwd : World.drew _ = wd
                have X := hX.drew
                have B := hB.drew
                rw [hwd] at X B
                clear hwd hB hX c0 c1 c2
                refine any_of_C (C := fun V => SBox V b6 23 #[.string ⟨s.toArray⟩, .string ⟨p.toArray⟩, .int .i64 r, .int .i64 f, .bool o] ∧ V.cell? ⟨bb, off + k * 3 + 1, none⟩ = some (.int .i64 x1)) 7 _ _ _ _ ?_
                refine takeD 0 (.agg #[.string ⟨s.toArray⟩, .string ⟨p.toArray⟩, .int .i64 r, .int .i64 f, .bool o]) rfl (by kernel_rfl) (fun _ _ _ h => h) (fun V hV => by obtain ⟨hV, cz⟩ := hV; have y0 := hV.cell 0 _ rfl; have y1 := hV.cell 1 _ rfl; have y2 := hV.cell 2 _ rfl; have y3 := hV.cell 3 _ rfl; have y4 := hV.cell 4 _ rfl; go_simp) ?_
                refine takeD 1 (.slice (some ⟨bb, off, none⟩) n cap) rfl (by kernel_rfl) (fun _ _ _ h => h) (fun V hV => by obtain ⟨hV, cz⟩ := hV; have y0 := hV.cell 0 _ rfl; have y1 := hV.cell 1 _ rfl; have y2 := hV.cell 2 _ rfl; have y3 := hV.cell 3 _ rfl; have y4 := hV.cell 4 _ rfl; go_simp) ?_
                refine takeD 2 (.int .i64 (k : Int)) rfl (by kernel_rfl) (fun _ _ _ h => h) (fun V hV => by obtain ⟨hV, cz⟩ := hV; have y0 := hV.cell 0 _ rfl; have y1 := hV.cell 1 _ rfl; have y2 := hV.cell 2 _ rfl; have y3 := hV.cell 3 _ rfl; have y4 := hV.cell 4 _ rfl; go_simp) ?_
                refine takeD 3 (.pointer (some ⟨bb, off + k * 3, none⟩)) rfl (by kernel_rfl) (fun _ _ _ h => h) (fun V hV => by obtain ⟨hV, cz⟩ := hV; have y0 := hV.cell 0 _ rfl; have y1 := hV.cell 1 _ rfl; have y2 := hV.cell 2 _ rfl; have y3 := hV.cell 3 _ rfl; have y4 := hV.cell 4 _ rfl; go_simp) ?_
                refine takeD 4 (.pointer (some ⟨bb, off + k * 3 + 1, none⟩)) rfl (by kernel_rfl) (fun _ _ _ h => h) (fun V hV => by obtain ⟨hV, cz⟩ := hV; have y0 := hV.cell 0 _ rfl; have y1 := hV.cell 1 _ rfl; have y2 := hV.cell 2 _ rfl; have y3 := hV.cell 3 _ rfl; have y4 := hV.cell 4 _ rfl; go_simp) ?_
                refine takeD 5 (.int .i64 x1) rfl (by kernel_rfl) (fun _ _ _ h => h) (fun V hV => by obtain ⟨hV, cz⟩ := hV; have y0 := hV.cell 0 _ rfl; have y1 := hV.cell 1 _ rfl; have y2 := hV.cell 2 _ rfl; have y3 := hV.cell 3 _ rfl; have y4 := hV.cell 4 _ rfl; go_simp) ?_
                refine consC (i := 6) (by kernel_rfl) (by kernel_rfl) ⟨X, (HCC.out _ B).2.1⟩ rfl (fun K hK => ?_)
                go_wp2_with fail
                refine (C.out _).mono ?_
                rintro e W1 ⟨rfl, b1⟩
                replace X := X.below b1
                replace B := B.trans (b1.mono B.size)
                clear b1
                go_wp2_with fail
                refine lastC (by kernel_rfl) (by kernel_rfl) ⟨X, (HCC.out _ B).2.1⟩ (of_decide_eq_true (by kernel_rfl)) ?_
                refine any_seqI [7] [_] _ _ _ rfl (by kernel_rfl) ?_
                have u0 := X.cell 0 _ rfl
                have fu0 := X.frozen 0
                have u1 := X.cell 1 _ rfl
                have fu1 := X.frozen 1
                have u2 := X.cell 2 _ rfl
                have fu2 := X.frozen 2
                have u3 := X.cell 3 _ rfl
                have fu3 := X.frozen 3
                have u4 := X.cell 4 _ rfl
                have fu4 := X.frozen 4
                obtain ⟨j1, j2, j3, j4, j5⟩ := HJ2.out
                simp only at j1 j2 j3 j4 j5
                have t1 : ¬ r' < 0 := by omega
                have t2 : wrap64 (r' + (s'.length : Int)) = r' + (s'.length : Int) := by unfold wrap64; omega
                have t3 : wrap64 (r' + (s'.length : Int) + (p'.length : Int)) = room := by unfold wrap64; omega
                clear j3 j4 j5
                go_wp2_with fail
                go_roundw
                case rel => exact ⟨k + 1, s', p', r', f', o', by omega, by omega, by first | go_num | simp, bel_put5 B HL6 _ _ _ _ _, X.put5 _ _ _ _ _, HJ2.out⟩
                case measure => simp [intOf]; omega
              · have n3 : (x0 == 3) = false := beq_eq_false_iff_ne.2 e3
                by_cases e4 : x0 = 4
                · subst e4
                  obtain ⟨⟨s', p', r', f', o'⟩, hW⟩ : ∃ x, crashT (s, p, r, f, o) x1 = x := ⟨_, rfl⟩
                  have C := Lib.hid (fun W => pc16 hgood hW W)
                  have J2 := (jr_crash HJ.out x1 (by omega) hr2).1
                  rw [hW] at J2
                  have HJ2 := Lib.hid J2
                  clear hW J2 hgood
                  go_wp2_with fail
                  refine wp_region_any (by kernel_rfl) ?_
                  change wpAny _ _ _ _ _ _ _ (World.drew _)
                  generalize hwd : World.drew _ = wd
                  have X := hX.drew
                  have B := hB.drew
                  rw [hwd] at X B
                  clear hwd hB hX c0 c1 c2
                  refine any_of_C (C := fun V => SBox V b6 23 #[.string ⟨s.toArray⟩, .string ⟨p.toArray⟩, .int .i64 r, .int .i64 f, .bool o] ∧ V.cell? ⟨bb, off + k * 3 + 1, none⟩ = some (.int .i64 x1)) 7 _ _ _ _ ?_
                  refine takeD 0 (.agg #[.string ⟨s.toArray⟩, .string ⟨p.toArray⟩, .int .i64 r, .int .i64 f, .bool o]) rfl (by kernel_rfl) (fun _ _ _ h => h) (fun V hV => by obtain ⟨hV, cz⟩ := hV; have y0 := hV.cell 0 _ rfl; have y1 := hV.cell 1 _ rfl; have y2 := hV.cell 2 _ rfl; have y3 := hV.cell 3 _ rfl; have y4 := hV.cell 4 _ rfl; go_simp) ?_
                  refine takeD 1 (.slice (some ⟨bb, off, none⟩) n cap) rfl (by kernel_rfl) (fun _ _ _ h => h) (fun V hV => by obtain ⟨hV, cz⟩ := hV; have y0 := hV.cell 0 _ rfl; have y1 := hV.cell 1 _ rfl; have y2 := hV.cell 2 _ rfl; have y3 := hV.cell 3 _ rfl; have y4 := hV.cell 4 _ rfl; go_simp) ?_
                  refine takeD 2 (.int .i64 (k : Int)) rfl (by kernel_rfl) (fun _ _ _ h => h) (fun V hV => by obtain ⟨hV, cz⟩ := hV; have y0 := hV.cell 0 _ rfl; have y1 := hV.cell 1 _ rfl; have y2 := hV.cell 2 _ rfl; have y3 := hV.cell 3 _ rfl; have y4 := hV.cell 4 _ rfl; go_simp) ?_
                  refine takeD 3 (.pointer (some ⟨bb, off + k * 3, none⟩)) rfl (by kernel_rfl) (fun _ _ _ h => h) (fun V hV => by obtain ⟨hV, cz⟩ := hV; have y0 := hV.cell 0 _ rfl; have y1 := hV.cell 1 _ rfl; have y2 := hV.cell 2 _ rfl; have y3 := hV.cell 3 _ rfl; have y4 := hV.cell 4 _ rfl; go_simp) ?_
                  refine takeD 4 (.pointer (some ⟨bb, off + k * 3 + 1, none⟩)) rfl (by kernel_rfl) (fun _ _ _ h => h) (fun V hV => by obtain ⟨hV, cz⟩ := hV; have y0 := hV.cell 0 _ rfl; have y1 := hV.cell 1 _ rfl; have y2 := hV.cell 2 _ rfl; have y3 := hV.cell 3 _ rfl; have y4 := hV.cell 4 _ rfl; go_simp) ?_
                  refine takeD 5 (.int .i64 x1) rfl (by kernel_rfl) (fun _ _ _ h => h) (fun V hV => by obtain ⟨hV, cz⟩ := hV; have y0 := hV.cell 0 _ rfl; have y1 := hV.cell 1 _ rfl; have y2 := hV.cell 2 _ rfl; have y3 := hV.cell 3 _ rfl; have y4 := hV.cell 4 _ rfl; go_simp) ?_
                  refine consC (i := 6) (by kernel_rfl) (by kernel_rfl) ⟨X, (HCC.out _ B).2.1⟩ rfl (fun K hK => ?_)
                  go_wp2_with fail
                  refine (C.out _).mono ?_
                  rintro e W1 ⟨rfl, b1⟩
                  replace X := X.below b1
                  replace B := B.trans (b1.mono B.size)
                  clear b1
                  go_wp2_with fail
                  refine lastC (by kernel_rfl) (by kernel_rfl) ⟨X, (HCC.out _ B).2.1⟩ (of_decide_eq_true (by kernel_rfl)) ?_
                  refine any_seqI [7] [_] _ _ _ rfl (by kernel_rfl) ?_
                  have u0 := X.cell 0 _ rfl
                  have fu0 := X.frozen 0
                  have u1 := X.cell 1 _ rfl
                  have fu1 := X.frozen 1
                  have u2 := X.cell 2 _ rfl
                  have fu2 := X.frozen 2
                  have u3 := X.cell 3 _ rfl
                  have fu3 := X.frozen 3
                  have u4 := X.cell 4 _ rfl
                  have fu4 := X.frozen 4
                  obtain ⟨j1, j2, j3, j4, j5⟩ := HJ2.out
                  simp only at j1 j2 j3 j4 j5
                  have t1 : ¬ r' < 0 := by omega
                  have t2 : wrap64 (r' + (s'.length : Int)) = r' + (s'.length : Int) := by unfold wrap64; omega
                  have t3 : wrap64 (r' + (s'.length : Int) + (p'.length : Int)) = room := by unfold wrap64; omega
                  clear j3 j4 j5
                  go_wp2_with fail
                  go_roundw
                  case rel => exact ⟨k + 1, s', p', r', f', o', by omega, by omega, by first | go_num | simp, bel_put5 B HL6 _ _ _ _ _, X.put5 _ _ _ _ _, HJ2.out⟩
                  case measure => simp [intOf]; omega
                · have n4 : (x0 == 4) = false := beq_eq_false_iff_ne.2 e4
                  clear e1 e2 e3 e4 hgood
                  obtain ⟨s', rfl⟩ : ∃ s', s' = s := ⟨_, rfl⟩
                  obtain ⟨p', rfl⟩ : ∃ p', p' = p := ⟨_, rfl⟩
                  obtain ⟨r', rfl⟩ : ∃ r', r' = r := ⟨_, rfl⟩
                  obtain ⟨f', rfl⟩ : ∃ f', f' = f := ⟨_, rfl⟩
                  obtain ⟨o', rfl⟩ : ∃ o', o' = o := ⟨_, rfl⟩
                  have HJ2 := Lib.hid HJ.out.more
                  have u0 := hX.cell 0 _ rfl
                  have fu0 := hX.frozen 0
                  have u1 := hX.cell 1 _ rfl
                  have fu1 := hX.frozen 1
                  have u2 := hX.cell 2 _ rfl
                  have fu2 := hX.frozen 2
                  have u3 := hX.cell 3 _ rfl
                  have fu3 := hX.frozen 3
                  have u4 := hX.cell 4 _ rfl
                  have fu4 := hX.frozen 4
                  obtain ⟨j1, j2, j3, j4, j5⟩ := HJ2.out
                  simp only at j1 j2 j3 j4 j5
                  have t1 : ¬ r' < 0 := by omega
                  have t2 : wrap64 (r' + (s'.length : Int)) = r' + (s'.length : Int) := by unfold wrap64; omega
                  have t3 : wrap64 (r' + (s'.length : Int) + (p'.length : Int)) = room := by unfold wrap64; omega
                  clear j3 j4 j5
                  go_wp2_with fail
                  go_roundw
                  case rel => exact ⟨k + 1, s', p', r', f', o', by omega, by omega, by first | go_num | simp, hB, hX, HJ2.out⟩
                  case measure => simp [intOf]; omega
        · have i2 : ¬ (k : Int) < (200 : Int) := by omega
          go_wp2_with fail
          go_ret
          exact ⟨rfl, hB⟩
      · have i0 : ¬ (k : Int) < (n : Int) := by omega
        go_wp2_with fail
        go_ret
        exact ⟨rfl, hB⟩
end Go.Proofs.Ytlaidbaghjlpfaa
