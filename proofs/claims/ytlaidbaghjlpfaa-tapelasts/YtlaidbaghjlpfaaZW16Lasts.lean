/-
  The walk of TapeLasts.
-/
import Derived.Test.YtlaidbaghjlpfaaZBegins16
import Derived.Deep.CutRange
namespace Go.Proofs.Ytlaidbaghjlpfaa
set_option maxRecDepth 100000
open Go.RowKit
set_option linter.unusedVariables false
attribute [local go_sem] ba_size ba_append farW_cell
set_option maxHeartbeats 16000000 in
theorem lasts16_walk (l : List Ac) (v : Value) (room : Int) (w : World) (hT : IsActs w v l) (hG : ∀ x ∈ l, goodA x) (hr1 : -9223372036854775808 ≤ room) (hr2 : room ≤ 9223372036854775807) : Calls Try.prog 4 #[.int .i64 room, v] w fun e w' => e = .returned (.bool true) ∧ Below w.heap.size w w' := by
  obtain ⟨a, cap, rfl, k1, k2, k3, HC⟩ := hT.some_at
  obtain ⟨n, hn⟩ : ∃ n, l.length = n := ⟨_, rfl⟩
  have HN := Lib.hid hn
  rw [hn] at k1 k3 ⊢
  have HG := Lib.hid hG
  clear hT hn hG
  by_cases hneg : room < 0
  · have hnew : newT room = (([], [], 0, 0, false), 1) := by unfold newT; rw [if_pos hneg]
    have C1 := fun W => pn16 room hnew W
    clear hnew
    go_enter Try.func4, Try.ntmps4
    go_wp2_with fail
    refine (shown16_any _).mono ?_
    rintro e w_1 ⟨rfl, b_1⟩
    have B1 := (Below.refl w.heap.size w).trans (b_1.mono (Below.refl w.heap.size w).size)
    clear b_1
    go_wp2_with fail
    refine (C1 _).mono ?_
    rintro e w_2 ⟨rfl, b_2⟩
    have B2 := B1.trans (b_2.mono B1.size)
    clear B1
    clear b_2
    go_wp2_with fail
    go_ret
    exact ⟨rfl, bel_trans B2 ((Below.refl _ _).alloc (Nat.le_refl _) _)⟩
  · skip
    obtain ⟨hnew, J0⟩ := la_new room hneg
    have C1 := fun W => pn16 room hnew W
    have HJ0 := Lib.hid J0
    clear hnew J0
    go_enter Try.func4, Try.ntmps4
    go_wp2_with fail
    refine (shown16_any _).mono ?_
    rintro e w_1 ⟨rfl, b_1⟩
    have B1 := (Below.refl w.heap.size w).trans (b_1.mono (Below.refl w.heap.size w).size)
    clear b_1
    go_wp2_with fail
    refine (C1 _).mono ?_
    rintro e w_2 ⟨rfl, b_2⟩
    have B2 := B1.trans (b_2.mono B1.size)
    clear B1
    clear b_2
    have X_t := SBox.new w_2 23 #[.string ⟨#[]⟩, .string ⟨#[]⟩, .int .i64 room, .int .i64 (-1), .bool false]
    have l_t := B2.size
    have B3 := B2.alloc B2.size (.cells #[.string ⟨#[]⟩, .string ⟨#[]⟩, .int .i64 room, .int .i64 (-1), .bool false] 23)
    clear B2
    obtain ⟨b6, hb6⟩ : ∃ b6, w_2.heap.size = b6 := ⟨_, rfl⟩
    have HL6 : w.heap.size ≤ b6 := by omega
    have BT := Lib.hid B3
    have XT := Lib.hid X_t
    clear B3 X_t C1
    go_wp2_with fail
    have XT1 := XT.out
    have BT1 := BT.out
    rw [hb6] at XT1
    clear hb6 BT XT
    go_loopw [8, 9, 10] (fun av su i wr => ∃ (k : Nat) (s p : List UInt8) (r f : Int) (o : Bool) (all : List (List UInt8)) (sure : Nat), k ≤ n ∧ k ≤ 200 ∧ i = .int .i64 k ∧ su = .int .i64 (sure : Int) ∧ Below w.heap.size w wr ∧ SBox wr b6 23 #[.string ⟨s.toArray⟩, .string ⟨p.toArray⟩, .int .i64 r, .int .i64 f, .bool o] ∧ Hid (La k room (s, p, r, f, o) all sure) ∧ Row16 wr (b6 + 1) av all) (fun _ _ i _ => n - (intOf i).toNat)
    case atStart => exact ⟨0, [], [], room, -1, false, [], 0, Nat.zero_le _, by omega, rfl, rfl, BT1, XT1, HJ0.out, Row16.nil _ _⟩
    case round =>
      obtain ⟨k, s, p, r, f, o, all, sure, hk, hk2, rfl, rfl, hB, X_t, HJ, R_al⟩ := hrel
      obtain ⟨aa, ca, rfl, -⟩ := R_al.len
      by_cases hlt : k < n
      · have i0 : (k : Int) < (n : Int) := by omega
        by_cases hlt2 : k < 200
        · have i2 : (k : Int) < (200 : Int) := by omega
          have hk1 : k < l.length := by rw [HN.out]; exact hlt
          obtain ⟨bb, off, rfl, hblt, hcell⟩ := HC.out k hk1
          have hga := HG.out l[k] (List.getElem_mem hk1)
          obtain ⟨⟨x0, x1, x2⟩, hx⟩ : ∃ x, l[k] = x := ⟨_, rfl⟩
          rw [hx] at hcell hga
          have q0 := hcell 0 _ rfl
          have q1 := hcell 1 _ rfl
          have q2 := hcell 2 _ rfl
          simp only [Nat.add_zero] at q0 q1 q2
          obtain ⟨-, ⟨ga1, ga2⟩, ga3⟩ := hga
          simp only at ga1 ga2 ga3
          have c0 := (hB.cell (p := ⟨bb, off + k * 3, none⟩) hblt).trans q0
          have c1 := (hB.cell (p := ⟨bb, off + k * 3 + 1, none⟩) hblt).trans q1
          have c2 := (hB.cell (p := ⟨bb, off + k * 3 + 2, none⟩) hblt).trans q2
          clear q0 q1 q2 hcell hx HC
          have hgood := HJ.out.jr.good (by omega) hr2
          have hfew := HJ.out.few
          have hlt6 := X_t.lt
          by_cases e1 : x0 = 1
          · subst e1
            obtain ⟨s', p', r', f', o', E, hW, hD⟩ := la_write HJ.out x2
            have C := Lib.hid (fun W => pw16 hgood (by omega) hW W)
            have HD := Lib.hid hD
            clear hW hD hgood
            replace X_t := X_t.alloc (.cells #[.int .i64 1, .int .i64 x1, .string ⟨x2.toArray⟩] 45)
            replace R_al := R_al.alloc (.cells #[.int .i64 1, .int .i64 x1, .string ⟨x2.toArray⟩] 45)
            have X_a := SBox.new wr 45 #[.int .i64 1, .int .i64 x1, .string ⟨x2.toArray⟩]
            have l_a := hB.size
            have B1 := hB.alloc hB.size (.cells #[.int .i64 1, .int .i64 x1, .string ⟨x2.toArray⟩] 45)
            have c_t0_1 := X_t.cell 0 _ rfl
            have fc_t0_1 := X_t.frozen 0
            have c_t1_2 := X_t.cell 1 _ rfl
            have fc_t1_2 := X_t.frozen 1
            have c_t2_3 := X_t.cell 2 _ rfl
            have fc_t2_3 := X_t.frozen 2
            have c_t3_4 := X_t.cell 3 _ rfl
            have fc_t3_4 := X_t.frozen 3
            have c_t4_5 := X_t.cell 4 _ rfl
            have fc_t4_5 := X_t.frozen 4
            have c_a0_6 := X_a.cell 0 _ rfl
            have fc_a0_6 := X_a.frozen 0
            have c_a1_7 := X_a.cell 1 _ rfl
            have fc_a1_7 := X_a.frozen 1
            have c_a2_8 := X_a.cell 2 _ rfl
            have fc_a2_8 := X_a.frozen 2
            go_wp2_with fail
            refine (C.out _).mono ?_
            rintro e w_9 ⟨rfl, b_9⟩
            clear c_t0_1 fc_t0_1 c_t1_2 fc_t1_2 c_t2_3 fc_t2_3 c_t3_4 fc_t3_4 c_t4_5 fc_t4_5 c_a0_6 fc_a0_6 c_a1_7 fc_a1_7 c_a2_8 fc_a2_8
            replace X_t := X_t.below b_9
            replace X_a := X_a.below b_9
            replace R_al := R_al.below b_9
            have B2 := B1.trans (b_9.mono B1.size)
            clear B1
            clear b_9
            have c_t0_10 := X_t.cell 0 _ rfl
            have fc_t0_10 := X_t.frozen 0
            have c_t1_11 := X_t.cell 1 _ rfl
            have fc_t1_11 := X_t.frozen 1
            have c_t2_12 := X_t.cell 2 _ rfl
            have fc_t2_12 := X_t.frozen 2
            have c_t3_13 := X_t.cell 3 _ rfl
            have fc_t3_13 := X_t.frozen 3
            have c_t4_14 := X_t.cell 4 _ rfl
            have fc_t4_14 := X_t.frozen 4
            have c_a0_15 := X_a.cell 0 _ rfl
            have fc_a0_15 := X_a.frozen 0
            have c_a1_16 := X_a.cell 1 _ rfl
            have fc_a1_16 := X_a.frozen 1
            have c_a2_17 := X_a.cell 2 _ rfl
            have fc_a2_17 := X_a.frozen 2
            clear c_t0_10 fc_t0_10 c_t1_11 fc_t1_11 c_t2_12 fc_t2_12 c_t3_13 fc_t3_13 c_t4_14 fc_t4_14 c_a0_15 fc_a0_15 c_a1_16 fc_a1_16 c_a2_17 fc_a2_17
            replace X_t := X_t.alloc (.cells #[.string ⟨s'.toArray⟩, .string ⟨p'.toArray⟩, .int .i64 r', .int .i64 f', .bool o'] 23)
            replace X_a := X_a.alloc (.cells #[.string ⟨s'.toArray⟩, .string ⟨p'.toArray⟩, .int .i64 r', .int .i64 f', .bool o'] 23)
            replace R_al := R_al.alloc (.cells #[.string ⟨s'.toArray⟩, .string ⟨p'.toArray⟩, .int .i64 r', .int .i64 f', .bool o'] 23)
            have X_k := SBox.new w_9 23 #[.string ⟨s'.toArray⟩, .string ⟨p'.toArray⟩, .int .i64 r', .int .i64 f', .bool o']
            have l_k := B2.size
            have B3 := B2.alloc B2.size (.cells #[.string ⟨s'.toArray⟩, .string ⟨p'.toArray⟩, .int .i64 r', .int .i64 f', .bool o'] 23)
            clear B2
            have c_t0_18 := X_t.cell 0 _ rfl
            have fc_t0_18 := X_t.frozen 0
            have c_t1_19 := X_t.cell 1 _ rfl
            have fc_t1_19 := X_t.frozen 1
            have c_t2_20 := X_t.cell 2 _ rfl
            have fc_t2_20 := X_t.frozen 2
            have c_t3_21 := X_t.cell 3 _ rfl
            have fc_t3_21 := X_t.frozen 3
            have c_t4_22 := X_t.cell 4 _ rfl
            have fc_t4_22 := X_t.frozen 4
            have c_a0_23 := X_a.cell 0 _ rfl
            have fc_a0_23 := X_a.frozen 0
            have c_a1_24 := X_a.cell 1 _ rfl
            have fc_a1_24 := X_a.frozen 1
            have c_a2_25 := X_a.cell 2 _ rfl
            have fc_a2_25 := X_a.frozen 2
            have c_k0_26 := X_k.cell 0 _ rfl
            have fc_k0_26 := X_k.frozen 0
            have c_k1_27 := X_k.cell 1 _ rfl
            have fc_k1_27 := X_k.frozen 1
            have c_k2_28 := X_k.cell 2 _ rfl
            have fc_k2_28 := X_k.frozen 2
            have c_k3_29 := X_k.cell 3 _ rfl
            have fc_k3_29 := X_k.frozen 3
            have c_k4_30 := X_k.cell 4 _ rfl
            have fc_k4_30 := X_k.frozen 4
            obtain ⟨app, hE0, hD0⟩ : ∃ app : Bool, ((app = true ∧ (E = 0 ∨ (E = 6 ∧ o = false))) ∨ (app = false ∧ ((E = 6 ∧ o = true) ∨ E = 4 ∨ E = 5))) ∧ ((app = true ∧ La (k + 1) room (s', p', r', f', o') (all ++ [x2]) sure) ∨ (app = false ∧ La (k + 1) room (s', p', r', f', o') all sure)) := by
              rcases HD.out with ⟨h1, h2⟩ | ⟨h1, h2⟩
              · exact ⟨true, .inl ⟨rfl, h1⟩, .inl ⟨rfl, h2⟩⟩
              · exact ⟨false, .inr ⟨rfl, h1⟩, .inr ⟨rfl, h2⟩⟩
            have HE0 := Lib.hid hE0
            have HD0 := Lib.hid hD0
            clear HD hE0 hD0
            go_upto_region 14 with fail
            go_cut [66] from 56 to 65 (fun s66 W => s66 = .bool app ∧ W = (w_9.alloc (.cells #[.string ⟨s'.toArray⟩, .string ⟨p'.toArray⟩, .int .i64 r', .int .i64 f', .bool o'] 23)))
            case first =>
              clear HD0 hB C
              rcases HE0.out with ⟨rfl, rfl | ⟨rfl, rfl⟩⟩ | ⟨rfl, ⟨rfl, rfl⟩ | rfl | rfl⟩
              · clear HE0
                go_wp2_with fail
                go_meet
                exact ⟨rfl, rfl⟩
              · clear HE0
                go_wp2_with fail
                go_meet
                exact ⟨rfl, rfl⟩
              · clear HE0
                go_wp2_with fail
                go_meet
                exact ⟨rfl, rfl⟩
              · clear HE0
                go_wp2_with fail
                go_meet
                exact ⟨rfl, rfl⟩
              · clear HE0
                go_wp2_with fail
                go_meet
                exact ⟨rfl, rfl⟩
            obtain ⟨rfl, rfl⟩ := hcut
            clear HE0
            go_upto_if 66 with fail
            have HB9 := Lib.hid B3
            have HR9 := Lib.hid R_al
            have HX9 := Lib.hid (And.intro X_t X_k)
            have HA9 := Lib.hid X_a
            go_cut [8] from 67 to 73 (fun s8 W => ∃ all', Below w.heap.size w W ∧ SBox W b6 23 #[.string ⟨s.toArray⟩, .string ⟨p.toArray⟩, .int .i64 r, .int .i64 f, .bool o] ∧ SBox W w_9.heap.size 23 #[.string ⟨s'.toArray⟩, .string ⟨p'.toArray⟩, .int .i64 r', .int .i64 f', .bool o'] ∧ Row16 W (b6 + 1) s8 all' ∧ La (k + 1) room (s', p', r', f', o') all' sure)
            case first =>
              rcases HD0.out with ⟨rfl, J2⟩ | ⟨rfl, J2⟩
              · clear HD0
                have HJ2 := Lib.hid J2
                clear J2 X_t X_k X_a R_al B3
                go_wp2_with fail
                refine wp_region_any (by kernel_rfl) ?_
                change wpAny _ _ _ _ _ _ _ (World.drew _)
                generalize hwd : World.drew _ = wd
                have DX : SBox wd b6 23 #[.string ⟨s.toArray⟩, .string ⟨p.toArray⟩, .int .i64 r, .int .i64 f, .bool o] ∧ SBox wd w_9.heap.size 23 #[.string ⟨s'.toArray⟩, .string ⟨p'.toArray⟩, .int .i64 r', .int .i64 f', .bool o'] := by rw [← hwd]; exact ⟨HX9.out.1.drew, HX9.out.2.drew⟩
                have DA : SBox wd wr.heap.size 45 #[.int .i64 1, .int .i64 x1, .string ⟨x2.toArray⟩] := by rw [← hwd]; exact HA9.out.drew
                have DR : Row16 wd (b6 + 1) (.slice aa all.length ca) all := by rw [← hwd]; exact HR9.out.below (Below.refl _ _).drew
                have DB : Below w.heap.size w wd := by rw [← hwd]; exact HB9.out.drew
                have DS : b6 + 1 ≤ wd.heap.size := DX.1.lt
                have HDX := Lib.hid DX
                have HDR := Lib.hid DR
                have HDB := Lib.hid DB
                have HDA := Lib.hid DA
                clear DX DR DB DA hwd HX9 HA9 HR9 HB9 c_t0_18 fc_t0_18 c_t1_19 fc_t1_19 c_t2_20 fc_t2_20 c_t3_21 fc_t3_21 c_t4_22 fc_t4_22 c_a0_23 fc_a0_23 c_a1_24 fc_a1_24 c_a2_25 fc_a2_25 c_k0_26 fc_k0_26 c_k1_27 fc_k1_27 c_k2_28 fc_k2_28 c_k3_29 fc_k3_29 c_k4_30 fc_k4_30
                refine any_of_C (C := fun V => SBox V wr.heap.size 45 #[.int .i64 1, .int .i64 x1, .string ⟨x2.toArray⟩]) 7 _ _ _ _ ?_
                refine takeD 1 (.slice aa all.length ca) rfl (by kernel_rfl) (fun _ _ _ h => h) (fun V hV => by have y0 := hV.cell 0 _ rfl; have y1 := hV.cell 1 _ rfl; have y2 := hV.cell 2 _ rfl; go_simp) ?_
                refine takeD 3 (.pointer (some ⟨wr.heap.size, 2, none⟩)) rfl (by kernel_rfl) (fun _ _ _ h => h) (fun V hV => by have y0 := hV.cell 0 _ rfl; have y1 := hV.cell 1 _ rfl; have y2 := hV.cell 2 _ rfl; go_simp) ?_
                refine takeD 4 (.string ⟨x2.toArray⟩) rfl (by kernel_rfl) (fun _ _ _ h => h) (fun V hV => by have y0 := hV.cell 0 _ rfl; have y1 := hV.cell 1 _ rfl; have y2 := hV.cell 2 _ rfl; go_simp) ?_
                have T : Below wd.heap.size wd wd := Below.refl _ _
                refine fork2 (i := 0) (j := 5) (by kernel_rfl) (by kernel_rfl) (HDA.out.below T) rfl rfl (fun K hK => ?_) (fun K hK => ?_)
                · skip
                  go_wp2_with fail
                  have h0 := (Row16.empty wd).low T.size
                  replace T := T.alloc T.size (.cells #[] 9)
                  generalize World.alloc wd (.cells #[] 9) = V1 at h0 T ⊢
                  refine fork2 (i := 2) (j := 5) (by kernel_rfl) (by kernel_rfl) (HDA.out.below T) rfl rfl (fun K hK => ?_) (fun K hK => ?_)
                  · skip
                    have HT := Lib.hid T
                    have H0 := Lib.hid h0
                    refine app16 rfl _ _ rfl wd.heap.size _ [] rfl H0.out _ _ all rfl (HDR.out.below HT.out) (by simp; omega) HT.out.size ?_
                    intro v1 V2 h1 g1
                    replace T := T.grown g1 T.size (fun j ej => (h0.lt j ej).1)
                    clear g1 h0 H0 HT
                    go_wp2_with fail
                    refine consC (i := 5) (by kernel_rfl) (by kernel_rfl) (HDA.out.below T) rfl (fun K hK => ?_)
                    go_wp2_with fail
                    have h5 := (Row16.one V2 x2).low T.size
                    replace h1 := h1.alloc (.cells #[.string ⟨x2.toArray⟩] 9)
                    replace T := T.alloc T.size (.cells #[.string ⟨x2.toArray⟩] 9)
                    generalize World.alloc V2 (.cells #[.string ⟨x2.toArray⟩] 9) = V3 at h5 T h1 ⊢
                    refine consC (i := 6) (by kernel_rfl) (by kernel_rfl) (HDA.out.below T) rfl (fun K hK => ?_)
                    have HT := Lib.hid T
                    have H1 := Lib.hid h1
                    have H5 := Lib.hid h5
                    refine app16 rfl _ _ rfl wd.heap.size _ all rfl H1.out _ _ [x2] rfl H5.out (by simp; omega) HT.out.size ?_
                    intro v2 V4 h2 g2
                    replace T := T.grown g2 T.size (fun j ej => (h1.lt j ej).1)
                    clear g2 h1 h5 H1 H5 HT
                    go_wp2_with fail
                    refine lastC (by kernel_rfl) (by kernel_rfl) (HDA.out.below T) (of_decide_eq_true (by kernel_rfl)) ?_
                    refine any_seqI [7] [_] _ _ _ rfl (by kernel_rfl) ?_
                    have HT := Lib.hid T
                    have H2 := Lib.hid h2
                    clear T h2
                    go_wp2_with fail
                    go_meet
                    exact ⟨all ++ [x2], HDB.out.trans (HT.out.mono HDB.out.size), HDX.out.1.below HT.out, HDX.out.2.below HT.out, H2.out.low DS, HJ2.out⟩
                  · skip
                    go_wp2_with fail
                    have h5 := (Row16.one V1 x2).low T.size
                    have ne5 : ¬ V1.heap.size = wd.heap.size := fun e => by have : wd.heap.size < V1.heap.size := (h0.lt _ rfl).2; omega
                    replace h0 := h0.alloc (.cells #[.string ⟨x2.toArray⟩] 9)
                    replace T := T.alloc T.size (.cells #[.string ⟨x2.toArray⟩] 9)
                    generalize World.alloc V1 (.cells #[.string ⟨x2.toArray⟩] 9) = V5 at h5 T h0 ⊢
                    refine consC (i := 2) (by kernel_rfl) (by kernel_rfl) (HDA.out.below T) rfl (fun K hK => ?_)
                    have HT := Lib.hid T
                    have H0 := Lib.hid h0
                    refine app16 rfl _ _ rfl wd.heap.size _ [] rfl H0.out _ _ all rfl (HDR.out.below HT.out) (by simp; omega) HT.out.size ?_
                    intro v1 V6 h1 g1
                    replace h5 := World.ownsRow.kept h5 g1 (.inr (fun e => ne5 (Option.some.inj e)))
                    replace T := T.grown g1 T.size (fun j ej => (h0.lt j ej).1)
                    clear g1 h0 H0 HT
                    go_wp2_with fail
                    refine consC (i := 6) (by kernel_rfl) (by kernel_rfl) (HDA.out.below T) rfl (fun K hK => ?_)
                    have HT := Lib.hid T
                    have H1 := Lib.hid h1
                    have H5 := Lib.hid h5
                    refine app16 rfl _ _ rfl wd.heap.size _ all rfl H1.out _ _ [x2] rfl H5.out (by simp; omega) HT.out.size ?_
                    intro v2 V7 h2 g2
                    replace T := T.grown g2 T.size (fun j ej => (h1.lt j ej).1)
                    clear g2 h1 h5 H1 H5 HT
                    go_wp2_with fail
                    refine lastC (by kernel_rfl) (by kernel_rfl) (HDA.out.below T) (of_decide_eq_true (by kernel_rfl)) ?_
                    refine any_seqI [7] [_] _ _ _ rfl (by kernel_rfl) ?_
                    have HT := Lib.hid T
                    have H2 := Lib.hid h2
                    clear T h2
                    go_wp2_with fail
                    go_meet
                    exact ⟨all ++ [x2], HDB.out.trans (HT.out.mono HDB.out.size), HDX.out.1.below HT.out, HDX.out.2.below HT.out, H2.out.low DS, HJ2.out⟩
                · skip
                  go_wp2_with fail
                  have h5 := (Row16.one wd x2).low T.size
                  replace T := T.alloc T.size (.cells #[.string ⟨x2.toArray⟩] 9)
                  generalize World.alloc wd (.cells #[.string ⟨x2.toArray⟩] 9) = V8 at h5 T ⊢
                  refine consC (i := 0) (by kernel_rfl) (by kernel_rfl) (HDA.out.below T) rfl (fun K hK => ?_)
                  go_wp2_with fail
                  have h0 := (Row16.empty V8).low T.size
                  have ne5 : ¬ wd.heap.size = V8.heap.size := fun e => by have : wd.heap.size < V8.heap.size := (h5.lt _ rfl).2; omega
                  replace h5 := h5.alloc (.cells #[] 9)
                  replace T := T.alloc T.size (.cells #[] 9)
                  generalize World.alloc V8 (.cells #[] 9) = V9 at h0 T h5 ⊢
                  refine consC (i := 2) (by kernel_rfl) (by kernel_rfl) (HDA.out.below T) rfl (fun K hK => ?_)
                  have HT := Lib.hid T
                  have H0 := Lib.hid h0
                  refine app16 rfl _ _ rfl wd.heap.size _ [] rfl H0.out _ _ all rfl (HDR.out.below HT.out) (by simp; omega) HT.out.size ?_
                  intro v1 V10 h1 g1
                  replace h5 := World.ownsRow.kept h5 g1 (.inr (fun e => ne5 (Option.some.inj e)))
                  replace T := T.grown g1 T.size (fun j ej => (h0.lt j ej).1)
                  clear g1 h0 H0 HT
                  go_wp2_with fail
                  refine consC (i := 6) (by kernel_rfl) (by kernel_rfl) (HDA.out.below T) rfl (fun K hK => ?_)
                  have HT := Lib.hid T
                  have H1 := Lib.hid h1
                  have H5 := Lib.hid h5
                  refine app16 rfl _ _ rfl wd.heap.size _ all rfl H1.out _ _ [x2] rfl H5.out (by simp; omega) HT.out.size ?_
                  intro v2 V11 h2 g2
                  replace T := T.grown g2 T.size (fun j ej => (h1.lt j ej).1)
                  clear g2 h1 h5 H1 H5 HT
                  go_wp2_with fail
                  refine lastC (by kernel_rfl) (by kernel_rfl) (HDA.out.below T) (of_decide_eq_true (by kernel_rfl)) ?_
                  refine any_seqI [7] [_] _ _ _ rfl (by kernel_rfl) ?_
                  have HT := Lib.hid T
                  have H2 := Lib.hid h2
                  clear T h2
                  go_wp2_with fail
                  go_meet
                  exact ⟨all ++ [x2], HDB.out.trans (HT.out.mono HDB.out.size), HDX.out.1.below HT.out, HDX.out.2.below HT.out, H2.out.low DS, HJ2.out⟩
              · clear HD0
                have HJ2 := Lib.hid J2
                clear J2 X_t X_k X_a R_al B3
                go_wp2_with fail
                go_meet
                exact ⟨all, HB9.out, HX9.out.1, HX9.out.2, HR9.out, HJ2.out⟩
            obtain ⟨all', B, X_t, X_k, R_al, J2⟩ := hcut
            have HJ2 := Lib.hid J2
            clear J2 HD0 HB9 HR9 HX9 HA9 hB C
            have hcB := B
            have c_t0_91 := X_t.cell 0 _ rfl
            have fc_t0_91 := X_t.frozen 0
            have c_t1_92 := X_t.cell 1 _ rfl
            have fc_t1_92 := X_t.frozen 1
            have c_t2_93 := X_t.cell 2 _ rfl
            have fc_t2_93 := X_t.frozen 2
            have c_t3_94 := X_t.cell 3 _ rfl
            have fc_t3_94 := X_t.frozen 3
            have c_t4_95 := X_t.cell 4 _ rfl
            have fc_t4_95 := X_t.frozen 4
            have c_k0_96 := X_k.cell 0 _ rfl
            have fc_k0_96 := X_k.frozen 0
            have c_k1_97 := X_k.cell 1 _ rfl
            have fc_k1_97 := X_k.frozen 1
            have c_k2_98 := X_k.cell 2 _ rfl
            have fc_k2_98 := X_k.frozen 2
            have c_k3_99 := X_k.cell 3 _ rfl
            have fc_k3_99 := X_k.frozen 3
            have c_k4_100 := X_k.cell 4 _ rfl
            have fc_k4_100 := X_k.frozen 4
            clear B
            go_wp2_with fail
            go_roundw
            case rel => exact ⟨k + 1, s', p', r', f', o', all', sure, by omega, by omega, by first | go_num | simp, rfl, bel_put5 hcB HL6 _ _ _ _ _, X_t.put5 _ _ _ _ _, HJ2.out, R_al.put5 _ (Nat.lt_succ_self _) _ _ _ _ _⟩
            case measure => simp [intOf]; omega
          · have n1 : (x0 == 1) = false := beq_eq_false_iff_ne.2 e1
            by_cases e2 : x0 = 2
            · subst e2
              obtain ⟨s', p', r', f', o', E, hW, hD⟩ := la_sync HJ.out
              have C := Lib.hid (fun W => ps16 hgood hW W)
              have HD := Lib.hid hD
              clear hW hD hgood
              replace X_t := X_t.alloc (.cells #[.int .i64 2, .int .i64 x1, .string ⟨x2.toArray⟩] 45)
              replace R_al := R_al.alloc (.cells #[.int .i64 2, .int .i64 x1, .string ⟨x2.toArray⟩] 45)
              have X_a := SBox.new wr 45 #[.int .i64 2, .int .i64 x1, .string ⟨x2.toArray⟩]
              have l_a := hB.size
              have B1 := hB.alloc hB.size (.cells #[.int .i64 2, .int .i64 x1, .string ⟨x2.toArray⟩] 45)
              have c_t0_1 := X_t.cell 0 _ rfl
              have fc_t0_1 := X_t.frozen 0
              have c_t1_2 := X_t.cell 1 _ rfl
              have fc_t1_2 := X_t.frozen 1
              have c_t2_3 := X_t.cell 2 _ rfl
              have fc_t2_3 := X_t.frozen 2
              have c_t3_4 := X_t.cell 3 _ rfl
              have fc_t3_4 := X_t.frozen 3
              have c_t4_5 := X_t.cell 4 _ rfl
              have fc_t4_5 := X_t.frozen 4
              have c_a0_6 := X_a.cell 0 _ rfl
              have fc_a0_6 := X_a.frozen 0
              have c_a1_7 := X_a.cell 1 _ rfl
              have fc_a1_7 := X_a.frozen 1
              have c_a2_8 := X_a.cell 2 _ rfl
              have fc_a2_8 := X_a.frozen 2
              go_wp2_with fail
              refine (C.out _).mono ?_
              rintro e w_9 ⟨rfl, b_9⟩
              clear c_t0_1 fc_t0_1 c_t1_2 fc_t1_2 c_t2_3 fc_t2_3 c_t3_4 fc_t3_4 c_t4_5 fc_t4_5 c_a0_6 fc_a0_6 c_a1_7 fc_a1_7 c_a2_8 fc_a2_8
              replace X_t := X_t.below b_9
              replace X_a := X_a.below b_9
              replace R_al := R_al.below b_9
              have B2 := B1.trans (b_9.mono B1.size)
              clear B1
              clear b_9
              have c_t0_10 := X_t.cell 0 _ rfl
              have fc_t0_10 := X_t.frozen 0
              have c_t1_11 := X_t.cell 1 _ rfl
              have fc_t1_11 := X_t.frozen 1
              have c_t2_12 := X_t.cell 2 _ rfl
              have fc_t2_12 := X_t.frozen 2
              have c_t3_13 := X_t.cell 3 _ rfl
              have fc_t3_13 := X_t.frozen 3
              have c_t4_14 := X_t.cell 4 _ rfl
              have fc_t4_14 := X_t.frozen 4
              have c_a0_15 := X_a.cell 0 _ rfl
              have fc_a0_15 := X_a.frozen 0
              have c_a1_16 := X_a.cell 1 _ rfl
              have fc_a1_16 := X_a.frozen 1
              have c_a2_17 := X_a.cell 2 _ rfl
              have fc_a2_17 := X_a.frozen 2
              clear c_t0_10 fc_t0_10 c_t1_11 fc_t1_11 c_t2_12 fc_t2_12 c_t3_13 fc_t3_13 c_t4_14 fc_t4_14 c_a0_15 fc_a0_15 c_a1_16 fc_a1_16 c_a2_17 fc_a2_17
              replace X_t := X_t.alloc (.cells #[.string ⟨s'.toArray⟩, .string ⟨p'.toArray⟩, .int .i64 r', .int .i64 f', .bool o'] 23)
              replace X_a := X_a.alloc (.cells #[.string ⟨s'.toArray⟩, .string ⟨p'.toArray⟩, .int .i64 r', .int .i64 f', .bool o'] 23)
              replace R_al := R_al.alloc (.cells #[.string ⟨s'.toArray⟩, .string ⟨p'.toArray⟩, .int .i64 r', .int .i64 f', .bool o'] 23)
              have X_k := SBox.new w_9 23 #[.string ⟨s'.toArray⟩, .string ⟨p'.toArray⟩, .int .i64 r', .int .i64 f', .bool o']
              have l_k := B2.size
              have B3 := B2.alloc B2.size (.cells #[.string ⟨s'.toArray⟩, .string ⟨p'.toArray⟩, .int .i64 r', .int .i64 f', .bool o'] 23)
              clear B2
              have c_t0_18 := X_t.cell 0 _ rfl
              have fc_t0_18 := X_t.frozen 0
              have c_t1_19 := X_t.cell 1 _ rfl
              have fc_t1_19 := X_t.frozen 1
              have c_t2_20 := X_t.cell 2 _ rfl
              have fc_t2_20 := X_t.frozen 2
              have c_t3_21 := X_t.cell 3 _ rfl
              have fc_t3_21 := X_t.frozen 3
              have c_t4_22 := X_t.cell 4 _ rfl
              have fc_t4_22 := X_t.frozen 4
              have c_a0_23 := X_a.cell 0 _ rfl
              have fc_a0_23 := X_a.frozen 0
              have c_a1_24 := X_a.cell 1 _ rfl
              have fc_a1_24 := X_a.frozen 1
              have c_a2_25 := X_a.cell 2 _ rfl
              have fc_a2_25 := X_a.frozen 2
              have c_k0_26 := X_k.cell 0 _ rfl
              have fc_k0_26 := X_k.frozen 0
              have c_k1_27 := X_k.cell 1 _ rfl
              have fc_k1_27 := X_k.frozen 1
              have c_k2_28 := X_k.cell 2 _ rfl
              have fc_k2_28 := X_k.frozen 2
              have c_k3_29 := X_k.cell 3 _ rfl
              have fc_k3_29 := X_k.frozen 3
              have c_k4_30 := X_k.cell 4 _ rfl
              have fc_k4_30 := X_k.frozen 4
              rcases HD.out with ⟨rfl, J2⟩ | ⟨rfl, J2⟩
              · have HJ2 := Lib.hid J2
                clear J2 HD
                go_wp2_with fail
                go_roundw
                case rel => exact ⟨k + 1, s', p', r', f', o', all, all.length, by omega, by omega, by first | go_num | simp, rfl, bel_put5 B3 HL6 _ _ _ _ _, X_t.put5 _ _ _ _ _, HJ2.out, R_al.put5 _ (Nat.lt_succ_self _) _ _ _ _ _⟩
                case measure => simp [intOf]; omega
              · have HJ2 := Lib.hid J2
                clear J2 HD
                go_wp2_with fail
                go_roundw
                case rel => exact ⟨k + 1, s', p', r', f', o', all, sure, by omega, by omega, by first | go_num | simp, rfl, bel_put5 B3 HL6 _ _ _ _ _, X_t.put5 _ _ _ _ _, HJ2.out, R_al.put5 _ (Nat.lt_succ_self _) _ _ _ _ _⟩
                case measure => simp [intOf]; omega
            · have n2 : (x0 == 2) = false := beq_eq_false_iff_ne.2 e2
              by_cases e3 : x0 = 3
              · subst e3
                obtain ⟨f', hW, J2⟩ := la_arm HJ.out x1 ga2
                have C := Lib.hid (fun W => pa16 hW W)
                have HJ2 := Lib.hid J2
                clear hW J2 hgood
                replace X_t := X_t.alloc (.cells #[.int .i64 3, .int .i64 x1, .string ⟨x2.toArray⟩] 45)
                replace R_al := R_al.alloc (.cells #[.int .i64 3, .int .i64 x1, .string ⟨x2.toArray⟩] 45)
                have X_a := SBox.new wr 45 #[.int .i64 3, .int .i64 x1, .string ⟨x2.toArray⟩]
                have l_a := hB.size
                have B1 := hB.alloc hB.size (.cells #[.int .i64 3, .int .i64 x1, .string ⟨x2.toArray⟩] 45)
                have c_t0_1 := X_t.cell 0 _ rfl
                have fc_t0_1 := X_t.frozen 0
                have c_t1_2 := X_t.cell 1 _ rfl
                have fc_t1_2 := X_t.frozen 1
                have c_t2_3 := X_t.cell 2 _ rfl
                have fc_t2_3 := X_t.frozen 2
                have c_t3_4 := X_t.cell 3 _ rfl
                have fc_t3_4 := X_t.frozen 3
                have c_t4_5 := X_t.cell 4 _ rfl
                have fc_t4_5 := X_t.frozen 4
                have c_a0_6 := X_a.cell 0 _ rfl
                have fc_a0_6 := X_a.frozen 0
                have c_a1_7 := X_a.cell 1 _ rfl
                have fc_a1_7 := X_a.frozen 1
                have c_a2_8 := X_a.cell 2 _ rfl
                have fc_a2_8 := X_a.frozen 2
                go_wp2_with fail
                refine (C.out _).mono ?_
                rintro e w_9 ⟨rfl, b_9⟩
                clear c_t0_1 fc_t0_1 c_t1_2 fc_t1_2 c_t2_3 fc_t2_3 c_t3_4 fc_t3_4 c_t4_5 fc_t4_5 c_a0_6 fc_a0_6 c_a1_7 fc_a1_7 c_a2_8 fc_a2_8
                replace X_t := X_t.below b_9
                replace X_a := X_a.below b_9
                replace R_al := R_al.below b_9
                have B2 := B1.trans (b_9.mono B1.size)
                clear B1
                clear b_9
                have c_t0_10 := X_t.cell 0 _ rfl
                have fc_t0_10 := X_t.frozen 0
                have c_t1_11 := X_t.cell 1 _ rfl
                have fc_t1_11 := X_t.frozen 1
                have c_t2_12 := X_t.cell 2 _ rfl
                have fc_t2_12 := X_t.frozen 2
                have c_t3_13 := X_t.cell 3 _ rfl
                have fc_t3_13 := X_t.frozen 3
                have c_t4_14 := X_t.cell 4 _ rfl
                have fc_t4_14 := X_t.frozen 4
                have c_a0_15 := X_a.cell 0 _ rfl
                have fc_a0_15 := X_a.frozen 0
                have c_a1_16 := X_a.cell 1 _ rfl
                have fc_a1_16 := X_a.frozen 1
                have c_a2_17 := X_a.cell 2 _ rfl
                have fc_a2_17 := X_a.frozen 2
                go_wp2_with fail
                go_roundw
                case rel => exact ⟨k + 1, s, p, r, f', o, all, sure, by omega, by omega, by first | go_num | simp, rfl, bel_put5 B2 HL6 _ _ _ _ _, X_t.put5 _ _ _ _ _, HJ2.out, R_al.put5 _ (Nat.lt_succ_self _) _ _ _ _ _⟩
                case measure => simp [intOf]; omega
              · have n3 : (x0 == 3) = false := beq_eq_false_iff_ne.2 e3
                by_cases e4 : x0 = 4
                · subst e4
                  obtain ⟨s', r', R, hW, hRd, hp, hs, hA, J2⟩ := la_crash HJ.out x1 (by omega) hr2
                  have C := Lib.hid (fun W => pc16 hgood hW W)
                  have hg2 := J2.jr.good (by omega) hr2
                  have C2 := Lib.hid (fun W => pr16 R hg2 hRd W)
                  have C3 := Lib.hid (fun W => pc16 hg2 hA W)
                  have HP := Lib.hid hp
                  have HM := Lib.hid HJ.out.may
                  have HJ2 := Lib.hid J2
                  have m1 : decide (R.length < sure) = false := decide_eq_false (by omega)
                  have m2 : R.length ≤ all.length := hp.length_le
                  clear hW hRd hp hA J2 hgood hg2
                  replace X_t := X_t.alloc (.cells #[.int .i64 4, .int .i64 x1, .string ⟨x2.toArray⟩] 45)
                  replace R_al := R_al.alloc (.cells #[.int .i64 4, .int .i64 x1, .string ⟨x2.toArray⟩] 45)
                  have X_a := SBox.new wr 45 #[.int .i64 4, .int .i64 x1, .string ⟨x2.toArray⟩]
                  have l_a := hB.size
                  have B1 := hB.alloc hB.size (.cells #[.int .i64 4, .int .i64 x1, .string ⟨x2.toArray⟩] 45)
                  have c_t0_1 := X_t.cell 0 _ rfl
                  have fc_t0_1 := X_t.frozen 0
                  have c_t1_2 := X_t.cell 1 _ rfl
                  have fc_t1_2 := X_t.frozen 1
                  have c_t2_3 := X_t.cell 2 _ rfl
                  have fc_t2_3 := X_t.frozen 2
                  have c_t3_4 := X_t.cell 3 _ rfl
                  have fc_t3_4 := X_t.frozen 3
                  have c_t4_5 := X_t.cell 4 _ rfl
                  have fc_t4_5 := X_t.frozen 4
                  have c_a0_6 := X_a.cell 0 _ rfl
                  have fc_a0_6 := X_a.frozen 0
                  have c_a1_7 := X_a.cell 1 _ rfl
                  have fc_a1_7 := X_a.frozen 1
                  have c_a2_8 := X_a.cell 2 _ rfl
                  have fc_a2_8 := X_a.frozen 2
                  go_wp2_with fail
                  refine (C.out _).mono ?_
                  rintro e w_9 ⟨rfl, b_9⟩
                  clear c_t0_1 fc_t0_1 c_t1_2 fc_t1_2 c_t2_3 fc_t2_3 c_t3_4 fc_t3_4 c_t4_5 fc_t4_5 c_a0_6 fc_a0_6 c_a1_7 fc_a1_7 c_a2_8 fc_a2_8
                  replace X_t := X_t.below b_9
                  replace X_a := X_a.below b_9
                  replace R_al := R_al.below b_9
                  have B2 := B1.trans (b_9.mono B1.size)
                  clear B1
                  clear b_9
                  have c_t0_10 := X_t.cell 0 _ rfl
                  have fc_t0_10 := X_t.frozen 0
                  have c_t1_11 := X_t.cell 1 _ rfl
                  have fc_t1_11 := X_t.frozen 1
                  have c_t2_12 := X_t.cell 2 _ rfl
                  have fc_t2_12 := X_t.frozen 2
                  have c_t3_13 := X_t.cell 3 _ rfl
                  have fc_t3_13 := X_t.frozen 3
                  have c_t4_14 := X_t.cell 4 _ rfl
                  have fc_t4_14 := X_t.frozen 4
                  have c_a0_15 := X_a.cell 0 _ rfl
                  have fc_a0_15 := X_a.frozen 0
                  have c_a1_16 := X_a.cell 1 _ rfl
                  have fc_a1_16 := X_a.frozen 1
                  have c_a2_17 := X_a.cell 2 _ rfl
                  have fc_a2_17 := X_a.frozen 2
                  go_wp2_with fail
                  clear c_t0_10 fc_t0_10 c_t1_11 fc_t1_11 c_t2_12 fc_t2_12 c_t3_13 fc_t3_13 c_t4_14 fc_t4_14 c_a0_15 fc_a0_15 c_a1_16 fc_a1_16 c_a2_17 fc_a2_17
                  replace X_a := SBox.other5 (k := b6) X_a (by omega) (.string ⟨s'.toArray⟩) (.string ⟨#[]⟩) (.int .i64 r') (.int .i64 (-1)) (.bool false)
                  replace R_al := R_al.put5 _ (Nat.lt_succ_self _) (.string ⟨s'.toArray⟩) (.string ⟨#[]⟩) (.int .i64 r') (.int .i64 (-1)) (.bool false)
                  have B3 := bel_put5 (B := b6) B2 HL6 (.string ⟨s'.toArray⟩) (.string ⟨#[]⟩) (.int .i64 r') (.int .i64 (-1)) (.bool false)
                  replace X_t := X_t.put5 (.string ⟨s'.toArray⟩) (.string ⟨#[]⟩) (.int .i64 r') (.int .i64 (-1)) (.bool false)
                  clear B2
                  have hl9 := X_t.lt
                  refine (C2.out _).mono ?_
                  rintro e w_18 ⟨v4, rfl, b_18, R_r⟩
                  replace X_t := X_t.below b_18
                  replace X_a := X_a.below b_18
                  replace R_al := R_al.below b_18
                  have B4 := B3.trans (b_18.mono B3.size)
                  clear B3
                  clear b_18
                  have c_t0_19 := X_t.cell 0 _ rfl
                  have fc_t0_19 := X_t.frozen 0
                  have c_t1_20 := X_t.cell 1 _ rfl
                  have fc_t1_20 := X_t.frozen 1
                  have c_t2_21 := X_t.cell 2 _ rfl
                  have fc_t2_21 := X_t.frozen 2
                  have c_t3_22 := X_t.cell 3 _ rfl
                  have fc_t3_22 := X_t.frozen 3
                  have c_t4_23 := X_t.cell 4 _ rfl
                  have fc_t4_23 := X_t.frozen 4
                  have c_a0_24 := X_a.cell 0 _ rfl
                  have fc_a0_24 := X_a.frozen 0
                  have c_a1_25 := X_a.cell 1 _ rfl
                  have fc_a1_25 := X_a.frozen 1
                  have c_a2_26 := X_a.cell 2 _ rfl
                  have fc_a2_26 := X_a.frozen 2
                  obtain ⟨a4, c4, rfl, -⟩ := R_r.len
                  go_wp2_with fail
                  refine (begins16_any R all _ _ _ _ _ R_r R_al HP.out (by omega) HM.out).mono ?_
                  rintro e w_27 ⟨rfl, b_27⟩
                  clear c_t0_19 fc_t0_19 c_t1_20 fc_t1_20 c_t2_21 fc_t2_21 c_t3_22 fc_t3_22 c_t4_23 fc_t4_23 c_a0_24 fc_a0_24 c_a1_25 fc_a1_25 c_a2_26 fc_a2_26
                  replace X_t := X_t.below b_27
                  replace X_a := X_a.below b_27
                  replace R_al := R_al.below b_27
                  replace R_r := R_r.below b_27
                  have B5 := B4.trans (b_27.mono B4.size)
                  clear B4
                  clear b_27
                  have c_t0_28 := X_t.cell 0 _ rfl
                  have fc_t0_28 := X_t.frozen 0
                  have c_t1_29 := X_t.cell 1 _ rfl
                  have fc_t1_29 := X_t.frozen 1
                  have c_t2_30 := X_t.cell 2 _ rfl
                  have fc_t2_30 := X_t.frozen 2
                  have c_t3_31 := X_t.cell 3 _ rfl
                  have fc_t3_31 := X_t.frozen 3
                  have c_t4_32 := X_t.cell 4 _ rfl
                  have fc_t4_32 := X_t.frozen 4
                  have c_a0_33 := X_a.cell 0 _ rfl
                  have fc_a0_33 := X_a.frozen 0
                  have c_a1_34 := X_a.cell 1 _ rfl
                  have fc_a1_34 := X_a.frozen 1
                  have c_a2_35 := X_a.cell 2 _ rfl
                  have fc_a2_35 := X_a.frozen 2
                  go_wp2_with fail
                  have HB9 := Lib.hid B5
                  have HR9 := Lib.hid R_r
                  have HX9 := Lib.hid X_t
                  clear B5 R_r X_t X_a R_al
                  refine region_far (by kernel_rfl) (by kernel_rfl) ?_
                  repeat (first | go_big_quiet_skip | (go_big_quiet_want; go_big_quiet_op; first | go_big_quiet_on | go_big_quiet_call (first | (go_at_call 23; exact calls_far (C3.out _)))))
                  refine wpQuiet_nil ?_
                  rintro w' ⟨U, rfl⟩
                  have FB := farW_bel w_27 U
                  have B := bel_trans HB9.out FB
                  have X := HX9.out.below FB
                  have RR := HR9.out.below FB
                  generalize farW _ U = wB at B X RR ⊢
                  clear FB HB9 HR9 HX9 c_t0_28 fc_t0_28 c_t1_29 fc_t1_29 c_t2_30 fc_t2_30 c_t3_31 fc_t3_31 c_t4_32 fc_t4_32 c_a0_33 fc_a0_33 c_a1_34 fc_a1_34 c_a2_35 fc_a2_35
                  go_wp2_with fail
                  go_roundw
                  case rel => exact ⟨k + 1, s', [], r', (-1), false, R, R.length, by omega, by omega, by first | go_num | simp, rfl, B, X, HJ2.out, RR.low hl9⟩
                  case measure => simp [intOf]; omega
                · have n4 : (x0 == 4) = false := beq_eq_false_iff_ne.2 e4
                  have HJ2 := Lib.hid HJ.out.same
                  clear e1 e2 e3 e4 hgood
                  replace X_t := X_t.alloc (.cells #[.int .i64 x0, .int .i64 x1, .string ⟨x2.toArray⟩] 45)
                  replace R_al := R_al.alloc (.cells #[.int .i64 x0, .int .i64 x1, .string ⟨x2.toArray⟩] 45)
                  have X_a := SBox.new wr 45 #[.int .i64 x0, .int .i64 x1, .string ⟨x2.toArray⟩]
                  have l_a := hB.size
                  have B1 := hB.alloc hB.size (.cells #[.int .i64 x0, .int .i64 x1, .string ⟨x2.toArray⟩] 45)
                  have c_t0_1 := X_t.cell 0 _ rfl
                  have fc_t0_1 := X_t.frozen 0
                  have c_t1_2 := X_t.cell 1 _ rfl
                  have fc_t1_2 := X_t.frozen 1
                  have c_t2_3 := X_t.cell 2 _ rfl
                  have fc_t2_3 := X_t.frozen 2
                  have c_t3_4 := X_t.cell 3 _ rfl
                  have fc_t3_4 := X_t.frozen 3
                  have c_t4_5 := X_t.cell 4 _ rfl
                  have fc_t4_5 := X_t.frozen 4
                  have c_a0_6 := X_a.cell 0 _ rfl
                  have fc_a0_6 := X_a.frozen 0
                  have c_a1_7 := X_a.cell 1 _ rfl
                  have fc_a1_7 := X_a.frozen 1
                  have c_a2_8 := X_a.cell 2 _ rfl
                  have fc_a2_8 := X_a.frozen 2
                  go_wp2_with fail
                  go_roundw
                  case rel => exact ⟨k + 1, s, p, r, f, o, all, sure, by omega, by omega, by first | go_num | simp, rfl, B1, X_t, HJ2.out, R_al⟩
                  case measure => simp [intOf]; omega
        · have i2 : ¬ (k : Int) < (200 : Int) := by omega
          go_wp2_with fail
          go_ret
          exact ⟨rfl, hB⟩
      · have i0 : ¬ (k : Int) < (n : Int) := by omega
        go_wp2_with fail
        go_ret
        exact ⟨rfl, hB⟩
end Go.Proofs.Ytlaidbaghjlpfaa
