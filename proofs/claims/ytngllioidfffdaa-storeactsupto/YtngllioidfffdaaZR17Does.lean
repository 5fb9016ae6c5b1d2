/-
  What cartoucheref17.Does answers.
-/
import Derived.Test.YtngllioidfffdaaGV
import Derived.Test.YtngllioidfffdaaZR6Take
import Derived.Lib.Hide
namespace Go.Proofs.Ytngllioidfffdaa
set_option maxRecDepth 100000
open Go.RowKit
set_option linter.unusedVariables false
attribute [local go_sem] ba_size ba_get ba_extract take_drop_end
theorem takeER_bad17 {s : List UInt8} (h : takeE s = none) : takeER s = ((0, 0, [], []), 3) := by unfold takeER; rw [h]
theorem takeER_ok17 {s : List UInt8} {x : Ev} (h : takeE s = some x) : takeER s = (x, 0) := by unfold takeER; rw [h]
set_option maxHeartbeats 16000000 in
theorem rdoes17_any (s p : List UInt8) (r f : Int) (o : Bool) (vo vh vc : Value) (H' : List Value) (x : Sd) (rec : List UInt8) (hl : rec.length ≤ 1125899906842624) (w : World) (hS : StIn w vo vh vc H' x) :
    Calls Try.prog 49 #[.agg (stC (s, p, r, f, o) vo vh vc), .string ⟨rec.toArray⟩] w fun e w' => DoesRes w (s, p, r, f, o) vo vh vc H' x (doesR x rec) e w' := by
  obtain ⟨x1, x2, x3⟩ := x
  obtain ⟨ao, co, rfl, ko1, ko2, ko3, _⟩ := hS.op.some_at
  have hr := hS.hi
  have ho := hS.ho
  obtain ⟨ah, ch, rfl, kh1, kh2, kh3, _⟩ := hr.some_at
  have hhl := ho.len
  obtain ⟨ac, cc, rfl, kc1, kc2, kc3, _⟩ := hS.ce.some_at
  simp only at ko1 ko2 ko3 kc1 kc2 kc3 hhl
  have S1 := src_rec evV_len (by omega) hS.op hS.so
  have S2 := src_rec hsV_len (by omega) hr hS.sh
  have S3 := src_txt hS.ce hS.sc
  simp only at S1 S3
  have HS := Lib.hid hS
  have HO := Lib.hid ho
  obtain ⟨no, hno⟩ : ∃ n, x1.length = n := ⟨_, rfl⟩
  obtain ⟨nh, hnh⟩ : ∃ n, H'.length = n := ⟨_, rfl⟩
  obtain ⟨nc, hnc⟩ : ∃ n, x3.length = n := ⟨_, rfl⟩
  have hnh2 : x2.length = nh := by omega
  simp only [hno, hnh, hnc] at S1 S2 S3 HS ko1 ko3 kh1 kh3 kc1 kc3 ⊢
  have HN : Hid (x1.length = no ∧ H'.length = nh ∧ x3.length = nc ∧ x2.length = nh) := ⟨hno, hnh, hnc, hnh2⟩
  have X := (SBox.new w 28 #[.string ⟨s.toArray⟩, .string ⟨p.toArray⟩, .int .i64 r, .int .i64 f, .bool o, .slice ao no co, .slice ah nh ch, .slice ac nc cc]).alloc (.cells zS17 28)
  have R := sbox2 w (.cells #[.string ⟨s.toArray⟩, .string ⟨p.toArray⟩, .int .i64 r, .int .i64 f, .bool o, .slice ao no co, .slice ah nh ch, .slice ac nc cc] 28) 28 zS17
  have B0 := bel2 w (.cells #[.string ⟨s.toArray⟩, .string ⟨p.toArray⟩, .int .i64 r, .int .i64 f, .bool o, .slice ao no co, .slice ah nh ch, .slice ac nc cc] 28) (.cells zS17 28)
  clear hS hr ho hno hnh hnc hnh2 hhl
  unfold DoesRes stC
  simp only
  by_cases hs1 : rec = [115]
  · subst hs1
    by_cases he : x1 = []
    · have hd : doesS (x1, x2, x3) [115] = none := by unfold doesS; rw [if_pos rfl, if_pos (.inl he)]
      have n0 : no = 0 := by rw [← HN.out.1, he]; rfl
      subst n0
      rw [doesR_no (hd)]
      simp only
      clear hd
      try clear he
      have kx0 := X.cell 0 _ rfl
      have kx1 := X.cell 1 _ rfl
      have kx2 := X.cell 2 _ rfl
      have kx3 := X.cell 3 _ rfl
      have kx4 := X.cell 4 _ rfl
      have kx5 := X.cell 5 _ rfl
      have kx6 := X.cell 6 _ rfl
      have kx7 := X.cell 7 _ rfl
      have fkx0 := X.frozen 0
      have fkx1 := X.frozen 1
      have fkx2 := X.frozen 2
      have fkx3 := X.frozen 3
      have fkx4 := X.frozen 4
      have fkx5 := X.frozen 5
      have fkx6 := X.frozen 6
      have fkx7 := X.frozen 7
      go_enter Try.func49, Try.ntmps49
      go_wp2_with fail
      exact bodyPost_ret (results_st2 Try.results49 _ _ (w.heap.size + 1) _ rfl rfl (sbox2 _ _ _ _)) rfl ⟨_, _, _, rfl, bel2 w _ _, _, fun V _ h => h⟩
    · have n0 : no ≠ 0 := fun e => he (List.length_eq_zero_iff.1 (HN.out.1.trans e))
      by_cases h8 : 8 ≤ nh
      · have hd : doesS (x1, x2, x3) [115] = none := by unfold doesS; rw [if_pos rfl, if_pos (.inr (by rw [HN.out.2.2.2]; exact h8))]
        have m0 : ((no : Int) == 0) = false := by rw [beq_eq_false_iff_ne]; omega
        have m1 : (8 : Int) ≤ (nh : Int) := by omega
        rw [doesR_no (hd)]
        simp only
        clear hd
        try clear he
        have kx0 := X.cell 0 _ rfl
        have kx1 := X.cell 1 _ rfl
        have kx2 := X.cell 2 _ rfl
        have kx3 := X.cell 3 _ rfl
        have kx4 := X.cell 4 _ rfl
        have kx5 := X.cell 5 _ rfl
        have kx6 := X.cell 6 _ rfl
        have kx7 := X.cell 7 _ rfl
        have fkx0 := X.frozen 0
        have fkx1 := X.frozen 1
        have fkx2 := X.frozen 2
        have fkx3 := X.frozen 3
        have fkx4 := X.frozen 4
        have fkx5 := X.frozen 5
        have fkx6 := X.frozen 6
        have fkx7 := X.frozen 7
        go_enter Try.func49, Try.ntmps49
        go_wp2_with fail
        exact bodyPost_ret (results_st2 Try.results49 _ _ (w.heap.size + 1) _ rfl rfl (sbox2 _ _ _ _)) rfl ⟨_, _, _, rfl, bel2 w _ _, _, fun V _ h => h⟩
      · skip
        have hd : doesS (x1, x2, x3) [115] = some ([], x2 ++ [x1], x3) := by unfold doesS; rw [if_pos rfl, if_neg (by rw [HN.out.2.2.2]; exact fun h => h.elim he h8)]
        have m0 : ((no : Int) == 0) = false := by rw [beq_eq_false_iff_ne]; omega
        have m1 : decide (8 ≤ nh) = false := decide_eq_false h8
        have m3 : (nh : Int) < 8 := by omega
        rw [doesR_yes hd]
        simp only
        clear hd he
        have kx0 := X.cell 0 _ rfl
        have kx1 := X.cell 1 _ rfl
        have kx2 := X.cell 2 _ rfl
        have kx3 := X.cell 3 _ rfl
        have kx4 := X.cell 4 _ rfl
        have kx5 := X.cell 5 _ rfl
        have kx6 := X.cell 6 _ rfl
        have kx7 := X.cell 7 _ rfl
        have fkx0 := X.frozen 0
        have fkx1 := X.frozen 1
        have fkx2 := X.frozen 2
        have fkx3 := X.frozen 3
        have fkx4 := X.frozen 4
        have fkx5 := X.frozen 5
        have fkx6 := X.frozen 6
        have fkx7 := X.frozen 7
        go_enter Try.func49, Try.ntmps49
        go_wp2_with fail
        clear kx0 fkx0 kx1 fkx1 kx2 fkx2 kx3 fkx3 kx4 fkx4 kx5 fkx5 kx6 fkx6 kx7 fkx7
        refine wp_region_any (by kernel_rfl) ?_
        change wpAny _ _ _ _ _ _ _ (World.drew _)
        generalize hwd : World.drew _ = wd
        have Xd := X.drew
        have Rd := R.drew
        have Bd := B0.drew
        rw [hwd] at Xd Rd Bd
        clear hwd X R B0
        have HSRC : Hid (Src17 wd 1 _ nh (recV hsV H')) := S2.below Bd
        have DS : w.heap.size + 1 < wd.heap.size := Rd.lt
        have T : Below wd.heap.size wd wd := Below.refl _ _
        refine any_of_C (C := (fun V => SBox V w.heap.size 28 #[.string ⟨s.toArray⟩, .string ⟨p.toArray⟩, .int .i64 r, .int .i64 f, .bool o, .slice ao no co, .slice ah nh ch, .slice ac nc cc])) 9 _ _ _ _ ?_
        refine takeD 1 (.pointer (some ⟨w.heap.size, 6, none⟩)) rfl (by kernel_rfl) (fun _ _ _ h => h) (fun V hV => by have hV0 := hV; have ky0 := hV0.cell 0 _ rfl; have ky1 := hV0.cell 1 _ rfl; have ky2 := hV0.cell 2 _ rfl; have ky3 := hV0.cell 3 _ rfl; have ky4 := hV0.cell 4 _ rfl; have ky5 := hV0.cell 5 _ rfl; have ky6 := hV0.cell 6 _ rfl; have ky7 := hV0.cell 7 _ rfl; go_simp) ?_
        refine takeD 2 (.slice ah nh ch) rfl (by kernel_rfl) (fun _ _ _ h => h) (fun V hV => by have hV0 := hV; have ky0 := hV0.cell 0 _ rfl; have ky1 := hV0.cell 1 _ rfl; have ky2 := hV0.cell 2 _ rfl; have ky3 := hV0.cell 3 _ rfl; have ky4 := hV0.cell 4 _ rfl; have ky5 := hV0.cell 5 _ rfl; have ky6 := hV0.cell 6 _ rfl; have ky7 := hV0.cell 7 _ rfl; go_simp) ?_
        refine takeD 4 (.pointer (some ⟨w.heap.size, 5, none⟩)) rfl (by kernel_rfl) (fun _ _ _ h => h) (fun V hV => by have hV0 := hV; have ky0 := hV0.cell 0 _ rfl; have ky1 := hV0.cell 1 _ rfl; have ky2 := hV0.cell 2 _ rfl; have ky3 := hV0.cell 3 _ rfl; have ky4 := hV0.cell 4 _ rfl; have ky5 := hV0.cell 5 _ rfl; have ky6 := hV0.cell 6 _ rfl; have ky7 := hV0.cell 7 _ rfl; go_simp) ?_
        refine takeD 5 (.slice ao no co) rfl (by kernel_rfl) (fun _ _ _ h => h) (fun V hV => by have hV0 := hV; have ky0 := hV0.cell 0 _ rfl; have ky1 := hV0.cell 1 _ rfl; have ky2 := hV0.cell 2 _ rfl; have ky3 := hV0.cell 3 _ rfl; have ky4 := hV0.cell 4 _ rfl; have ky5 := hV0.cell 5 _ rfl; have ky6 := hV0.cell 6 _ rfl; have ky7 := hV0.cell 7 _ rfl; go_simp) ?_
        refine fork2 (i := 0) (j := 6) (by kernel_rfl) (by kernel_rfl) (Xd.below T) rfl rfl (fun K hK => ?_) (fun K hK => ?_)
        · skip
          go_wp2_with fail
          have h0 := owns_low (own_empty8 wd 24 1) T.size
          replace T := T.alloc T.size (.cells #[] 24)
          generalize World.alloc wd (.cells #[] 24) = V1 at h0 T ⊢
          refine fork2 (i := 3) (j := 6) (by kernel_rfl) (by kernel_rfl) (Xd.below T) rfl rfl (fun K hK => ?_) (fun K hK => ?_)
          · skip
            have HT := Lib.hid T
            have H0 := Lib.hid h0
            refine app17 rfl _ _ 25 24 1 24 (.slice none 0 0) rfl Try.underlying25 sto_info_hs rfl (by decide) (by decide) wd.heap.size _ 0 [] rfl H0.out _ nh (recV hsV H') rfl (HSRC.out.below HT.out) (hs_one HO.out) (by omega) HT.out.size ?_
            intro v1 V2 h1 g1
            simp only [Nat.zero_add, List.nil_append] at h1
            replace T := T.grown g1 T.size (fun j ej => (h0.lt j ej).1)
            clear g1 h0 H0 HT
            go_wp2_with fail
            refine consC (i := 6) (by kernel_rfl) (by kernel_rfl) (Xd.below T) rfl (fun K hK => ?_)
            go_wp2_with fail
            have h5 : (V2.alloc (.cells #[.slice ao no co] 24)).ownsRow wd.heap.size 24 1 (.slice (some ⟨V2.heap.size, 0, none⟩) 1 1) 1 [.slice ao no co] := owns_low (own_one17 V2 24 1 [.slice ao no co] rfl) T.size
            replace h1 := h1.alloc (.cells #[.slice ao no co] 24)
            replace T := T.alloc T.size (.cells #[.slice ao no co] 24)
            generalize World.alloc V2 (.cells #[.slice ao no co] 24) = V3 at h5 T h1 ⊢
            refine consC (i := 7) (by kernel_rfl) (by kernel_rfl) (Xd.below T) rfl (fun K hK => ?_)
            have HT := Lib.hid T
            have H1 := Lib.hid h1
            have H5 := Lib.hid h5
            refine app17 rfl _ _ 25 24 1 24 (.slice none 0 0) rfl Try.underlying25 sto_info_hs rfl (by decide) (by decide) wd.heap.size _ nh (recV hsV H') rfl H1.out _ 1 [.slice ao no co] rfl (src_own H5.out) (by intro u hu; simp at hu; subst hu; rfl) (by omega) HT.out.size ?_
            intro v2 V4 h2 g2
            replace T := T.grown g2 T.size (fun j ej => (h1.lt j ej).1)
            clear g2 h1 h5 H1 H5 HT
            go_wp2_with fail
            refine consC (i := 8) (by kernel_rfl) (by kernel_rfl) (Xd.below T) rfl (fun K hK => ?_)
            go_wp2_with fail
            refine lastC (by kernel_rfl) (by kernel_rfl) (Xd.below T) (of_decide_eq_true (by kernel_rfl)) ?_
            refine any_seqI [9] [_] _ _ _ rfl (by kernel_rfl) ?_
            obtain ⟨g1, c1, rfl, _⟩ := own_slice9 h2
            have X := Xd.below T
            have R := Rd.below T
            have B0 := Bd.trans (T.mono Bd.size)
            have HR := Lib.hid R
            have HB := Lib.hid B0
            have H2 := Lib.hid h2
            clear h2 T
            have kx0 := X.cell 0 _ rfl
            have kx1 := X.cell 1 _ rfl
            have kx2 := X.cell 2 _ rfl
            have kx3 := X.cell 3 _ rfl
            have kx4 := X.cell 4 _ rfl
            have kx5 := X.cell 5 _ rfl
            have kx6 := X.cell 6 _ rfl
            have kx7 := X.cell 7 _ rfl
            have fkx0 := X.frozen 0
            have fkx1 := X.frozen 1
            have fkx2 := X.frozen 2
            have fkx3 := X.frozen 3
            have fkx4 := X.frozen 4
            have fkx5 := X.frozen 5
            have fkx6 := X.frozen 6
            have fkx7 := X.frozen 7
            have kz0 := R.cell 0 _ rfl
            have kz1 := R.cell 1 _ rfl
            have kz2 := R.cell 2 _ rfl
            have kz3 := R.cell 3 _ rfl
            have kz4 := R.cell 4 _ rfl
            have kz5 := R.cell 5 _ rfl
            have kz6 := R.cell 6 _ rfl
            have kz7 := R.cell 7 _ rfl
            have fkz0 := R.frozen 0
            have fkz1 := R.frozen 1
            have fkz2 := R.frozen 2
            have fkz3 := R.frozen 3
            have fkz4 := R.frozen 4
            have fkz5 := R.frozen 5
            have fkz6 := R.frozen 6
            have fkz7 := R.frozen 7
            go_wp2_with fail
            have BZ := bel_put8 (B := w.heap.size + 1) ((HB.out.setCell (p := ⟨w.heap.size, 6, none⟩) (Nat.le_refl _) (.slice g1 (nh + 1) c1)).setCell (p := ⟨w.heap.size, 5, none⟩) (Nat.le_refl _) (.slice none 0 0)) (by omega)
            refine bodyPost_ret (results_st2 Try.results49 _ _ (w.heap.size + 1) _ rfl rfl (((HR.out.other w.heap.size 6 _ (by omega)).other w.heap.size 5 _ (by omega)).put8 _ _ _ _ _ _ _ _)) rfl ⟨_, _, _, rfl, BZ _ _ _ _ _ _ _ _, H' ++ [.slice ao no co], fun V hV hSV => ?_⟩
            have ON := own_put8 (own_setlo (own_setlo H2.out (k := w.heap.size) 6 (by omega) (.slice g1 (nh + 1) c1)) (k := w.heap.size) 5 (by omega) (.slice none 0 0)) (k := w.heap.size + 1) (by omega)
            refine ⟨IsRec.nil _ _ _, IsRec.own (L := H' ++ [.slice ao no co]) hsV_len (by omega) (e := 24) (B := wd.heap.size) (n := nh + 1) ?_ (by omega), hSV.ho.snoc hSV.op hSV.so, hSV.ce, .inl rfl, ?_, hSV.sc⟩
            · rw [recV_append]; exact owns_agr (ON _ _ _ _ _ _ _ _) (by omega) (by decide) hV
            · exact shp_own (ON (.bool true) (.bool true) (.bool true) (.bool true) (.bool true) (.bool true) (.bool true) (.bool true))
          · skip
            go_wp2_with fail
            have h5 : (V1.alloc (.cells #[.slice ao no co] 24)).ownsRow wd.heap.size 24 1 (.slice (some ⟨V1.heap.size, 0, none⟩) 1 1) 1 [.slice ao no co] := owns_low (own_one17 V1 24 1 [.slice ao no co] rfl) T.size
            have ne5 : ¬ V1.heap.size = wd.heap.size := fun e => by have : wd.heap.size < V1.heap.size := (h0.lt _ rfl).2; omega
            replace h0 := h0.alloc (.cells #[.slice ao no co] 24)
            replace T := T.alloc T.size (.cells #[.slice ao no co] 24)
            generalize World.alloc V1 (.cells #[.slice ao no co] 24) = V5 at h5 T h0 ⊢
            refine consC (i := 3) (by kernel_rfl) (by kernel_rfl) (Xd.below T) rfl (fun K hK => ?_)
            have HT := Lib.hid T
            have H0 := Lib.hid h0
            refine app17 rfl _ _ 25 24 1 24 (.slice none 0 0) rfl Try.underlying25 sto_info_hs rfl (by decide) (by decide) wd.heap.size _ 0 [] rfl H0.out _ nh (recV hsV H') rfl (HSRC.out.below HT.out) (hs_one HO.out) (by omega) HT.out.size ?_
            intro v1 V6 h1 g1
            simp only [Nat.zero_add, List.nil_append] at h1
            replace h5 := World.ownsRow.kept h5 g1 (.inr (fun e => ne5 (Option.some.inj e)))
            replace T := T.grown g1 T.size (fun j ej => (h0.lt j ej).1)
            clear g1 h0 H0 HT
            go_wp2_with fail
            refine consC (i := 7) (by kernel_rfl) (by kernel_rfl) (Xd.below T) rfl (fun K hK => ?_)
            have HT := Lib.hid T
            have H1 := Lib.hid h1
            have H5 := Lib.hid h5
            refine app17 rfl _ _ 25 24 1 24 (.slice none 0 0) rfl Try.underlying25 sto_info_hs rfl (by decide) (by decide) wd.heap.size _ nh (recV hsV H') rfl H1.out _ 1 [.slice ao no co] rfl (src_own H5.out) (by intro u hu; simp at hu; subst hu; rfl) (by omega) HT.out.size ?_
            intro v2 V7 h2 g2
            replace T := T.grown g2 T.size (fun j ej => (h1.lt j ej).1)
            clear g2 h1 h5 H1 H5 HT
            go_wp2_with fail
            refine consC (i := 8) (by kernel_rfl) (by kernel_rfl) (Xd.below T) rfl (fun K hK => ?_)
            go_wp2_with fail
            refine lastC (by kernel_rfl) (by kernel_rfl) (Xd.below T) (of_decide_eq_true (by kernel_rfl)) ?_
            refine any_seqI [9] [_] _ _ _ rfl (by kernel_rfl) ?_
            obtain ⟨g1, c1, rfl, _⟩ := own_slice9 h2
            have X := Xd.below T
            have R := Rd.below T
            have B0 := Bd.trans (T.mono Bd.size)
            have HR := Lib.hid R
            have HB := Lib.hid B0
            have H2 := Lib.hid h2
            clear h2 T
            have kx0 := X.cell 0 _ rfl
            have kx1 := X.cell 1 _ rfl
            have kx2 := X.cell 2 _ rfl
            have kx3 := X.cell 3 _ rfl
            have kx4 := X.cell 4 _ rfl
            have kx5 := X.cell 5 _ rfl
            have kx6 := X.cell 6 _ rfl
            have kx7 := X.cell 7 _ rfl
            have fkx0 := X.frozen 0
            have fkx1 := X.frozen 1
            have fkx2 := X.frozen 2
            have fkx3 := X.frozen 3
            have fkx4 := X.frozen 4
            have fkx5 := X.frozen 5
            have fkx6 := X.frozen 6
            have fkx7 := X.frozen 7
            have kz0 := R.cell 0 _ rfl
            have kz1 := R.cell 1 _ rfl
            have kz2 := R.cell 2 _ rfl
            have kz3 := R.cell 3 _ rfl
            have kz4 := R.cell 4 _ rfl
            have kz5 := R.cell 5 _ rfl
            have kz6 := R.cell 6 _ rfl
            have kz7 := R.cell 7 _ rfl
            have fkz0 := R.frozen 0
            have fkz1 := R.frozen 1
            have fkz2 := R.frozen 2
            have fkz3 := R.frozen 3
            have fkz4 := R.frozen 4
            have fkz5 := R.frozen 5
            have fkz6 := R.frozen 6
            have fkz7 := R.frozen 7
            go_wp2_with fail
            have BZ := bel_put8 (B := w.heap.size + 1) ((HB.out.setCell (p := ⟨w.heap.size, 6, none⟩) (Nat.le_refl _) (.slice g1 (nh + 1) c1)).setCell (p := ⟨w.heap.size, 5, none⟩) (Nat.le_refl _) (.slice none 0 0)) (by omega)
            refine bodyPost_ret (results_st2 Try.results49 _ _ (w.heap.size + 1) _ rfl rfl (((HR.out.other w.heap.size 6 _ (by omega)).other w.heap.size 5 _ (by omega)).put8 _ _ _ _ _ _ _ _)) rfl ⟨_, _, _, rfl, BZ _ _ _ _ _ _ _ _, H' ++ [.slice ao no co], fun V hV hSV => ?_⟩
            have ON := own_put8 (own_setlo (own_setlo H2.out (k := w.heap.size) 6 (by omega) (.slice g1 (nh + 1) c1)) (k := w.heap.size) 5 (by omega) (.slice none 0 0)) (k := w.heap.size + 1) (by omega)
            refine ⟨IsRec.nil _ _ _, IsRec.own (L := H' ++ [.slice ao no co]) hsV_len (by omega) (e := 24) (B := wd.heap.size) (n := nh + 1) ?_ (by omega), hSV.ho.snoc hSV.op hSV.so, hSV.ce, .inl rfl, ?_, hSV.sc⟩
            · rw [recV_append]; exact owns_agr (ON _ _ _ _ _ _ _ _) (by omega) (by decide) hV
            · exact shp_own (ON (.bool true) (.bool true) (.bool true) (.bool true) (.bool true) (.bool true) (.bool true) (.bool true))
        · skip
          go_wp2_with fail
          have h5 : (wd.alloc (.cells #[.slice ao no co] 24)).ownsRow wd.heap.size 24 1 (.slice (some ⟨wd.heap.size, 0, none⟩) 1 1) 1 [.slice ao no co] := owns_low (own_one17 wd 24 1 [.slice ao no co] rfl) T.size
          replace T := T.alloc T.size (.cells #[.slice ao no co] 24)
          generalize World.alloc wd (.cells #[.slice ao no co] 24) = V8 at h5 T ⊢
          refine consC (i := 0) (by kernel_rfl) (by kernel_rfl) (Xd.below T) rfl (fun K hK => ?_)
          go_wp2_with fail
          have h0 := owns_low (own_empty8 V8 24 1) T.size
          have ne5 : ¬ wd.heap.size = V8.heap.size := fun e => by have : wd.heap.size < V8.heap.size := (h5.lt _ rfl).2; omega
          replace h5 := h5.alloc (.cells #[] 24)
          replace T := T.alloc T.size (.cells #[] 24)
          generalize World.alloc V8 (.cells #[] 24) = V9 at h0 T h5 ⊢
          refine consC (i := 3) (by kernel_rfl) (by kernel_rfl) (Xd.below T) rfl (fun K hK => ?_)
          have HT := Lib.hid T
          have H0 := Lib.hid h0
          refine app17 rfl _ _ 25 24 1 24 (.slice none 0 0) rfl Try.underlying25 sto_info_hs rfl (by decide) (by decide) wd.heap.size _ 0 [] rfl H0.out _ nh (recV hsV H') rfl (HSRC.out.below HT.out) (hs_one HO.out) (by omega) HT.out.size ?_
          intro v1 V10 h1 g1
          simp only [Nat.zero_add, List.nil_append] at h1
          replace h5 := World.ownsRow.kept h5 g1 (.inr (fun e => ne5 (Option.some.inj e)))
          replace T := T.grown g1 T.size (fun j ej => (h0.lt j ej).1)
          clear g1 h0 H0 HT
          go_wp2_with fail
          refine consC (i := 7) (by kernel_rfl) (by kernel_rfl) (Xd.below T) rfl (fun K hK => ?_)
          have HT := Lib.hid T
          have H1 := Lib.hid h1
          have H5 := Lib.hid h5
          refine app17 rfl _ _ 25 24 1 24 (.slice none 0 0) rfl Try.underlying25 sto_info_hs rfl (by decide) (by decide) wd.heap.size _ nh (recV hsV H') rfl H1.out _ 1 [.slice ao no co] rfl (src_own H5.out) (by intro u hu; simp at hu; subst hu; rfl) (by omega) HT.out.size ?_
          intro v2 V11 h2 g2
          replace T := T.grown g2 T.size (fun j ej => (h1.lt j ej).1)
          clear g2 h1 h5 H1 H5 HT
          go_wp2_with fail
          refine consC (i := 8) (by kernel_rfl) (by kernel_rfl) (Xd.below T) rfl (fun K hK => ?_)
          go_wp2_with fail
          refine lastC (by kernel_rfl) (by kernel_rfl) (Xd.below T) (of_decide_eq_true (by kernel_rfl)) ?_
          refine any_seqI [9] [_] _ _ _ rfl (by kernel_rfl) ?_
          obtain ⟨g1, c1, rfl, _⟩ := own_slice9 h2
          have X := Xd.below T
          have R := Rd.below T
          have B0 := Bd.trans (T.mono Bd.size)
          have HR := Lib.hid R
          have HB := Lib.hid B0
          have H2 := Lib.hid h2
          clear h2 T
          have kx0 := X.cell 0 _ rfl
          have kx1 := X.cell 1 _ rfl
          have kx2 := X.cell 2 _ rfl
          have kx3 := X.cell 3 _ rfl
          have kx4 := X.cell 4 _ rfl
          have kx5 := X.cell 5 _ rfl
          have kx6 := X.cell 6 _ rfl
          have kx7 := X.cell 7 _ rfl
          have fkx0 := X.frozen 0
          have fkx1 := X.frozen 1
          have fkx2 := X.frozen 2
          have fkx3 := X.frozen 3
          have fkx4 := X.frozen 4
          have fkx5 := X.frozen 5
          have fkx6 := X.frozen 6
          have fkx7 := X.frozen 7
          have kz0 := R.cell 0 _ rfl
          have kz1 := R.cell 1 _ rfl
          have kz2 := R.cell 2 _ rfl
          have kz3 := R.cell 3 _ rfl
          have kz4 := R.cell 4 _ rfl
          have kz5 := R.cell 5 _ rfl
          have kz6 := R.cell 6 _ rfl
          have kz7 := R.cell 7 _ rfl
          have fkz0 := R.frozen 0
          have fkz1 := R.frozen 1
          have fkz2 := R.frozen 2
          have fkz3 := R.frozen 3
          have fkz4 := R.frozen 4
          have fkz5 := R.frozen 5
          have fkz6 := R.frozen 6
          have fkz7 := R.frozen 7
          go_wp2_with fail
          have BZ := bel_put8 (B := w.heap.size + 1) ((HB.out.setCell (p := ⟨w.heap.size, 6, none⟩) (Nat.le_refl _) (.slice g1 (nh + 1) c1)).setCell (p := ⟨w.heap.size, 5, none⟩) (Nat.le_refl _) (.slice none 0 0)) (by omega)
          refine bodyPost_ret (results_st2 Try.results49 _ _ (w.heap.size + 1) _ rfl rfl (((HR.out.other w.heap.size 6 _ (by omega)).other w.heap.size 5 _ (by omega)).put8 _ _ _ _ _ _ _ _)) rfl ⟨_, _, _, rfl, BZ _ _ _ _ _ _ _ _, H' ++ [.slice ao no co], fun V hV hSV => ?_⟩
          have ON := own_put8 (own_setlo (own_setlo H2.out (k := w.heap.size) 6 (by omega) (.slice g1 (nh + 1) c1)) (k := w.heap.size) 5 (by omega) (.slice none 0 0)) (k := w.heap.size + 1) (by omega)
          refine ⟨IsRec.nil _ _ _, IsRec.own (L := H' ++ [.slice ao no co]) hsV_len (by omega) (e := 24) (B := wd.heap.size) (n := nh + 1) ?_ (by omega), hSV.ho.snoc hSV.op hSV.so, hSV.ce, .inl rfl, ?_, hSV.sc⟩
          · rw [recV_append]; exact owns_agr (ON _ _ _ _ _ _ _ _) (by omega) (by decide) hV
          · exact shp_own (ON (.bool true) (.bool true) (.bool true) (.bool true) (.bool true) (.bool true) (.bool true) (.bool true))
  · have m4 : (rec == [115]) = false := beq_eq_false_iff_ne.2 hs1
    match rec, hl, hs1, m4 with
    | [], _, _, m4 =>
      have hd : doesS (x1, x2, x3) [] = none := rfl
      rw [doesR_no (hd)]
      simp only
      clear hd
      try clear he
      have kx0 := X.cell 0 _ rfl
      have kx1 := X.cell 1 _ rfl
      have kx2 := X.cell 2 _ rfl
      have kx3 := X.cell 3 _ rfl
      have kx4 := X.cell 4 _ rfl
      have kx5 := X.cell 5 _ rfl
      have kx6 := X.cell 6 _ rfl
      have kx7 := X.cell 7 _ rfl
      have fkx0 := X.frozen 0
      have fkx1 := X.frozen 1
      have fkx2 := X.frozen 2
      have fkx3 := X.frozen 3
      have fkx4 := X.frozen 4
      have fkx5 := X.frozen 5
      have fkx6 := X.frozen 6
      have fkx7 := X.frozen 7
      go_enter Try.func49, Try.ntmps49
      go_wp2_with fail
      exact bodyPost_ret (results_st2 Try.results49 _ _ (w.heap.size + 1) _ rfl rfl (sbox2 _ _ _ _)) rfl ⟨_, _, _, rfl, bel2 w _ _, _, fun V _ h => h⟩
    | c :: b, hl, hs1, m4 =>
      have hbl : b.length ≤ 1125899906842624 := by simp only [List.length_cons] at hl; omega
      have hb2 : (0 : Int) < (b.length : Int) + 1 := by omega
      have hb4 : ¬ ((b.length : Int) + 1 ≤ 0) := by omega
      by_cases c9 : c = 99
      · subst c9
        have c99 : (((99 : UInt8).toNat : Int) == 101) = false := by decide
        have c98 : (((99 : UInt8).toNat : Int) == 99) = true := by decide
        by_cases hc : nc < 16
        · skip
          have hd : doesS (x1, x2, x3) (99 :: b) = some (x1, x2, x3 ++ [b]) := by
            unfold doesS
            rw [if_neg (by simp)]
            simp only
            rw [if_pos ⟨trivial, by rw [HN.out.2.2.1]; exact hc⟩]
          have m1 : (nc : Int) < 16 := by omega
          have hb1 : ¬ ((b.length : Int) + 1 < 1) := by omega
          have hb2 : (0 : Int) < (b.length : Int) + 1 := by omega
          have hb3 : ((99 : UInt8).toNat : Int) = 99 := rfl
          rw [doesR_yes hd]
          simp only
          clear hd
          have kx0 := X.cell 0 _ rfl
          have kx1 := X.cell 1 _ rfl
          have kx2 := X.cell 2 _ rfl
          have kx3 := X.cell 3 _ rfl
          have kx4 := X.cell 4 _ rfl
          have kx5 := X.cell 5 _ rfl
          have kx6 := X.cell 6 _ rfl
          have kx7 := X.cell 7 _ rfl
          have fkx0 := X.frozen 0
          have fkx1 := X.frozen 1
          have fkx2 := X.frozen 2
          have fkx3 := X.frozen 3
          have fkx4 := X.frozen 4
          have fkx5 := X.frozen 5
          have fkx6 := X.frozen 6
          have fkx7 := X.frozen 7
          go_enter Try.func49, Try.ntmps49
          go_wp2_with fail
          clear kx0 fkx0 kx1 fkx1 kx2 fkx2 kx3 fkx3 kx4 fkx4 kx5 fkx5 kx6 fkx6 kx7 fkx7
          refine wp_region_any (by kernel_rfl) ?_
          change wpAny _ _ _ _ _ _ _ (World.drew _)
          generalize hwd : World.drew _ = wd
          have Xd := X.drew
          have Rd := R.drew
          have Bd := B0.drew
          rw [hwd] at Xd Rd Bd
          clear hwd X R B0
          have HSRC : Hid (Src17 wd 1 _ nc (strV x3)) := S3.below Bd
          have DS : w.heap.size + 1 < wd.heap.size := Rd.lt
          have T : Below wd.heap.size wd wd := Below.refl _ _
          refine any_of_C (C := (fun V => SBox V w.heap.size 28 #[.string ⟨s.toArray⟩, .string ⟨p.toArray⟩, .int .i64 r, .int .i64 f, .bool o, .slice ao no co, .slice ah nh ch, .slice ac nc cc])) 9 _ _ _ _ ?_
          refine takeD 1 (.pointer (some ⟨w.heap.size, 7, none⟩)) rfl (by kernel_rfl) (fun _ _ _ h => h) (fun V hV => by have hV0 := hV; have ky0 := hV0.cell 0 _ rfl; have ky1 := hV0.cell 1 _ rfl; have ky2 := hV0.cell 2 _ rfl; have ky3 := hV0.cell 3 _ rfl; have ky4 := hV0.cell 4 _ rfl; have ky5 := hV0.cell 5 _ rfl; have ky6 := hV0.cell 6 _ rfl; have ky7 := hV0.cell 7 _ rfl; go_simp) ?_
          refine takeD 2 (.slice ac nc cc) rfl (by kernel_rfl) (fun _ _ _ h => h) (fun V hV => by have hV0 := hV; have ky0 := hV0.cell 0 _ rfl; have ky1 := hV0.cell 1 _ rfl; have ky2 := hV0.cell 2 _ rfl; have ky3 := hV0.cell 3 _ rfl; have ky4 := hV0.cell 4 _ rfl; have ky5 := hV0.cell 5 _ rfl; have ky6 := hV0.cell 6 _ rfl; have ky7 := hV0.cell 7 _ rfl; go_simp) ?_
          refine takeD 4 (.string ⟨(99 :: b : List UInt8).toArray⟩) rfl (by kernel_rfl) (fun _ _ _ h => h) (fun V hV => by have hV0 := hV; have ky0 := hV0.cell 0 _ rfl; have ky1 := hV0.cell 1 _ rfl; have ky2 := hV0.cell 2 _ rfl; have ky3 := hV0.cell 3 _ rfl; have ky4 := hV0.cell 4 _ rfl; have ky5 := hV0.cell 5 _ rfl; have ky6 := hV0.cell 6 _ rfl; have ky7 := hV0.cell 7 _ rfl; go_simp) ?_
          refine takeD 5 (.string ⟨b.toArray⟩) rfl (by kernel_rfl) (fun _ _ _ h => h) (fun V hV => by have hV0 := hV; have ky0 := hV0.cell 0 _ rfl; have ky1 := hV0.cell 1 _ rfl; have ky2 := hV0.cell 2 _ rfl; have ky3 := hV0.cell 3 _ rfl; have ky4 := hV0.cell 4 _ rfl; have ky5 := hV0.cell 5 _ rfl; have ky6 := hV0.cell 6 _ rfl; have ky7 := hV0.cell 7 _ rfl; go_simp) ?_
          refine fork2 (i := 0) (j := 6) (by kernel_rfl) (by kernel_rfl) (Xd.below T) rfl rfl (fun K hK => ?_) (fun K hK => ?_)
          · skip
            go_wp2_with fail
            have h0 := owns_low (own_empty8 wd 9 1) T.size
            replace T := T.alloc T.size (.cells #[] 9)
            generalize World.alloc wd (.cells #[] 9) = V1 at h0 T ⊢
            refine fork2 (i := 3) (j := 6) (by kernel_rfl) (by kernel_rfl) (Xd.below T) rfl rfl (fun K hK => ?_) (fun K hK => ?_)
            · skip
              have HT := Lib.hid T
              have H0 := Lib.hid h0
              refine app17 rfl _ _ 26 9 1 16 (.string ByteArray.empty) rfl Try.underlying26 str_info rfl (by decide) (by decide) wd.heap.size _ 0 [] rfl H0.out _ nc (strV x3) rfl (HSRC.out.below HT.out) (str_one17 x3) (by omega) HT.out.size ?_
              intro v1 V2 h1 g1
              simp only [Nat.zero_add, List.nil_append] at h1
              replace T := T.grown g1 T.size (fun j ej => (h0.lt j ej).1)
              clear g1 h0 H0 HT
              go_wp2_with fail
              refine consC (i := 6) (by kernel_rfl) (by kernel_rfl) (Xd.below T) rfl (fun K hK => ?_)
              go_wp2_with fail
              have h5 : (V2.alloc (.cells #[.string ⟨b.toArray⟩] 9)).ownsRow wd.heap.size 9 1 (.slice (some ⟨V2.heap.size, 0, none⟩) 1 1) 1 [.string ⟨b.toArray⟩] := owns_low (own_one17 V2 9 1 [.string ⟨b.toArray⟩] rfl) T.size
              replace h1 := h1.alloc (.cells #[.string ⟨b.toArray⟩] 9)
              replace T := T.alloc T.size (.cells #[.string ⟨b.toArray⟩] 9)
              generalize World.alloc V2 (.cells #[.string ⟨b.toArray⟩] 9) = V3 at h5 T h1 ⊢
              refine consC (i := 7) (by kernel_rfl) (by kernel_rfl) (Xd.below T) rfl (fun K hK => ?_)
              have HT := Lib.hid T
              have H1 := Lib.hid h1
              have H5 := Lib.hid h5
              refine app17 rfl _ _ 26 9 1 16 (.string ByteArray.empty) rfl Try.underlying26 str_info rfl (by decide) (by decide) wd.heap.size _ nc (strV x3) rfl H1.out _ 1 [.string ⟨b.toArray⟩] rfl (src_own H5.out) (by intro u hu; simp at hu; subst hu; rfl) (by omega) HT.out.size ?_
              intro v2 V4 h2 g2
              replace T := T.grown g2 T.size (fun j ej => (h1.lt j ej).1)
              clear g2 h1 h5 H1 H5 HT
              go_wp2_with fail
              refine consC (i := 8) (by kernel_rfl) (by kernel_rfl) (Xd.below T) rfl (fun K hK => ?_)
              go_wp2_with fail
              refine lastC (by kernel_rfl) (by kernel_rfl) (Xd.below T) (of_decide_eq_true (by kernel_rfl)) ?_
              refine any_seqI [9] [_] _ _ _ rfl (by kernel_rfl) ?_
              obtain ⟨g1, c1, rfl, _⟩ := own_slice9 h2
              have X := Xd.below T
              have R := Rd.below T
              have B0 := Bd.trans (T.mono Bd.size)
              have HR := Lib.hid R
              have HB := Lib.hid B0
              have H2 := Lib.hid h2
              clear h2 T
              have kx0 := X.cell 0 _ rfl
              have kx1 := X.cell 1 _ rfl
              have kx2 := X.cell 2 _ rfl
              have kx3 := X.cell 3 _ rfl
              have kx4 := X.cell 4 _ rfl
              have kx5 := X.cell 5 _ rfl
              have kx6 := X.cell 6 _ rfl
              have kx7 := X.cell 7 _ rfl
              have fkx0 := X.frozen 0
              have fkx1 := X.frozen 1
              have fkx2 := X.frozen 2
              have fkx3 := X.frozen 3
              have fkx4 := X.frozen 4
              have fkx5 := X.frozen 5
              have fkx6 := X.frozen 6
              have fkx7 := X.frozen 7
              have kz0 := R.cell 0 _ rfl
              have kz1 := R.cell 1 _ rfl
              have kz2 := R.cell 2 _ rfl
              have kz3 := R.cell 3 _ rfl
              have kz4 := R.cell 4 _ rfl
              have kz5 := R.cell 5 _ rfl
              have kz6 := R.cell 6 _ rfl
              have kz7 := R.cell 7 _ rfl
              have fkz0 := R.frozen 0
              have fkz1 := R.frozen 1
              have fkz2 := R.frozen 2
              have fkz3 := R.frozen 3
              have fkz4 := R.frozen 4
              have fkz5 := R.frozen 5
              have fkz6 := R.frozen 6
              have fkz7 := R.frozen 7
              go_wp2_with fail
              have BZ := bel_put8 (B := w.heap.size + 1) (HB.out.setCell (p := ⟨w.heap.size, 7, none⟩) (Nat.le_refl _) (.slice g1 (nc + 1) c1)) (by omega)
              refine bodyPost_ret (results_st2 Try.results49 _ _ (w.heap.size + 1) _ rfl rfl ((HR.out.other w.heap.size 7 _ (by omega)).put8 _ _ _ _ _ _ _ _)) rfl ⟨_, _, _, rfl, BZ _ _ _ _ _ _ _ _, H', fun V hV hSV => ?_⟩
              have ON := own_put8 (own_setlo H2.out (k := w.heap.size) 7 (by omega) (.slice g1 (nc + 1) c1)) (k := w.heap.size + 1) (by omega)
              refine ⟨hSV.op, hSV.hi, hSV.ho, IsTxt.own (B := wd.heap.size) (n := nc + 1) (l := x3 ++ [b]) ?_ (by omega) ?_, hSV.so, hSV.sh, ?_⟩
              · rw [show strV (x3 ++ [b]) = strV x3 ++ [.string ⟨b.toArray⟩] by simp [strV]]; exact owns_agr (ON _ _ _ _ _ _ _ _) (by omega) (by decide) hV
              · intro t ht
                rcases List.mem_append.1 ht with ht | ht
                · exact hSV.ce.bound t ht
                · rw [List.mem_singleton.1 ht]; exact hbl
              · exact shp_own (ON (.bool true) (.bool true) (.bool true) (.bool true) (.bool true) (.bool true) (.bool true) (.bool true))
            · skip
              go_wp2_with fail
              have h5 : (V1.alloc (.cells #[.string ⟨b.toArray⟩] 9)).ownsRow wd.heap.size 9 1 (.slice (some ⟨V1.heap.size, 0, none⟩) 1 1) 1 [.string ⟨b.toArray⟩] := owns_low (own_one17 V1 9 1 [.string ⟨b.toArray⟩] rfl) T.size
              have ne5 : ¬ V1.heap.size = wd.heap.size := fun e => by have : wd.heap.size < V1.heap.size := (h0.lt _ rfl).2; omega
              replace h0 := h0.alloc (.cells #[.string ⟨b.toArray⟩] 9)
              replace T := T.alloc T.size (.cells #[.string ⟨b.toArray⟩] 9)
              generalize World.alloc V1 (.cells #[.string ⟨b.toArray⟩] 9) = V5 at h5 T h0 ⊢
              refine consC (i := 3) (by kernel_rfl) (by kernel_rfl) (Xd.below T) rfl (fun K hK => ?_)
              have HT := Lib.hid T
              have H0 := Lib.hid h0
              refine app17 rfl _ _ 26 9 1 16 (.string ByteArray.empty) rfl Try.underlying26 str_info rfl (by decide) (by decide) wd.heap.size _ 0 [] rfl H0.out _ nc (strV x3) rfl (HSRC.out.below HT.out) (str_one17 x3) (by omega) HT.out.size ?_
              intro v1 V6 h1 g1
              simp only [Nat.zero_add, List.nil_append] at h1
              replace h5 := World.ownsRow.kept h5 g1 (.inr (fun e => ne5 (Option.some.inj e)))
              replace T := T.grown g1 T.size (fun j ej => (h0.lt j ej).1)
              clear g1 h0 H0 HT
              go_wp2_with fail
              refine consC (i := 7) (by kernel_rfl) (by kernel_rfl) (Xd.below T) rfl (fun K hK => ?_)
              have HT := Lib.hid T
              have H1 := Lib.hid h1
              have H5 := Lib.hid h5
              refine app17 rfl _ _ 26 9 1 16 (.string ByteArray.empty) rfl Try.underlying26 str_info rfl (by decide) (by decide) wd.heap.size _ nc (strV x3) rfl H1.out _ 1 [.string ⟨b.toArray⟩] rfl (src_own H5.out) (by intro u hu; simp at hu; subst hu; rfl) (by omega) HT.out.size ?_
              intro v2 V7 h2 g2
              replace T := T.grown g2 T.size (fun j ej => (h1.lt j ej).1)
              clear g2 h1 h5 H1 H5 HT
              go_wp2_with fail
              refine consC (i := 8) (by kernel_rfl) (by kernel_rfl) (Xd.below T) rfl (fun K hK => ?_)
              go_wp2_with fail
              refine lastC (by kernel_rfl) (by kernel_rfl) (Xd.below T) (of_decide_eq_true (by kernel_rfl)) ?_
              refine any_seqI [9] [_] _ _ _ rfl (by kernel_rfl) ?_
              obtain ⟨g1, c1, rfl, _⟩ := own_slice9 h2
              have X := Xd.below T
              have R := Rd.below T
              have B0 := Bd.trans (T.mono Bd.size)
              have HR := Lib.hid R
              have HB := Lib.hid B0
              have H2 := Lib.hid h2
              clear h2 T
              have kx0 := X.cell 0 _ rfl
              have kx1 := X.cell 1 _ rfl
              have kx2 := X.cell 2 _ rfl
              have kx3 := X.cell 3 _ rfl
              have kx4 := X.cell 4 _ rfl
              have kx5 := X.cell 5 _ rfl
              have kx6 := X.cell 6 _ rfl
              have kx7 := X.cell 7 _ rfl
              have fkx0 := X.frozen 0
              have fkx1 := X.frozen 1
              have fkx2 := X.frozen 2
              have fkx3 := X.frozen 3
              have fkx4 := X.frozen 4
              have fkx5 := X.frozen 5
              have fkx6 := X.frozen 6
              have fkx7 := X.frozen 7
              have kz0 := R.cell 0 _ rfl
              have kz1 := R.cell 1 _ rfl
              have kz2 := R.cell 2 _ rfl
              have kz3 := R.cell 3 _ rfl
              have kz4 := R.cell 4 _ rfl
              have kz5 := R.cell 5 _ rfl
              have kz6 := R.cell 6 _ rfl
              have kz7 := R.cell 7 _ rfl
              have fkz0 := R.frozen 0
              have fkz1 := R.frozen 1
              have fkz2 := R.frozen 2
              have fkz3 := R.frozen 3
              have fkz4 := R.frozen 4
              have fkz5 := R.frozen 5
              have fkz6 := R.frozen 6
              have fkz7 := R.frozen 7
              go_wp2_with fail
              have BZ := bel_put8 (B := w.heap.size + 1) (HB.out.setCell (p := ⟨w.heap.size, 7, none⟩) (Nat.le_refl _) (.slice g1 (nc + 1) c1)) (by omega)
              refine bodyPost_ret (results_st2 Try.results49 _ _ (w.heap.size + 1) _ rfl rfl ((HR.out.other w.heap.size 7 _ (by omega)).put8 _ _ _ _ _ _ _ _)) rfl ⟨_, _, _, rfl, BZ _ _ _ _ _ _ _ _, H', fun V hV hSV => ?_⟩
              have ON := own_put8 (own_setlo H2.out (k := w.heap.size) 7 (by omega) (.slice g1 (nc + 1) c1)) (k := w.heap.size + 1) (by omega)
              refine ⟨hSV.op, hSV.hi, hSV.ho, IsTxt.own (B := wd.heap.size) (n := nc + 1) (l := x3 ++ [b]) ?_ (by omega) ?_, hSV.so, hSV.sh, ?_⟩
              · rw [show strV (x3 ++ [b]) = strV x3 ++ [.string ⟨b.toArray⟩] by simp [strV]]; exact owns_agr (ON _ _ _ _ _ _ _ _) (by omega) (by decide) hV
              · intro t ht
                rcases List.mem_append.1 ht with ht | ht
                · exact hSV.ce.bound t ht
                · rw [List.mem_singleton.1 ht]; exact hbl
              · exact shp_own (ON (.bool true) (.bool true) (.bool true) (.bool true) (.bool true) (.bool true) (.bool true) (.bool true))
          · skip
            go_wp2_with fail
            have h5 : (wd.alloc (.cells #[.string ⟨b.toArray⟩] 9)).ownsRow wd.heap.size 9 1 (.slice (some ⟨wd.heap.size, 0, none⟩) 1 1) 1 [.string ⟨b.toArray⟩] := owns_low (own_one17 wd 9 1 [.string ⟨b.toArray⟩] rfl) T.size
            replace T := T.alloc T.size (.cells #[.string ⟨b.toArray⟩] 9)
            generalize World.alloc wd (.cells #[.string ⟨b.toArray⟩] 9) = V8 at h5 T ⊢
            refine consC (i := 0) (by kernel_rfl) (by kernel_rfl) (Xd.below T) rfl (fun K hK => ?_)
            go_wp2_with fail
            have h0 := owns_low (own_empty8 V8 9 1) T.size
            have ne5 : ¬ wd.heap.size = V8.heap.size := fun e => by have : wd.heap.size < V8.heap.size := (h5.lt _ rfl).2; omega
            replace h5 := h5.alloc (.cells #[] 9)
            replace T := T.alloc T.size (.cells #[] 9)
            generalize World.alloc V8 (.cells #[] 9) = V9 at h0 T h5 ⊢
            refine consC (i := 3) (by kernel_rfl) (by kernel_rfl) (Xd.below T) rfl (fun K hK => ?_)
            have HT := Lib.hid T
            have H0 := Lib.hid h0
            refine app17 rfl _ _ 26 9 1 16 (.string ByteArray.empty) rfl Try.underlying26 str_info rfl (by decide) (by decide) wd.heap.size _ 0 [] rfl H0.out _ nc (strV x3) rfl (HSRC.out.below HT.out) (str_one17 x3) (by omega) HT.out.size ?_
            intro v1 V10 h1 g1
            simp only [Nat.zero_add, List.nil_append] at h1
            replace h5 := World.ownsRow.kept h5 g1 (.inr (fun e => ne5 (Option.some.inj e)))
            replace T := T.grown g1 T.size (fun j ej => (h0.lt j ej).1)
            clear g1 h0 H0 HT
            go_wp2_with fail
            refine consC (i := 7) (by kernel_rfl) (by kernel_rfl) (Xd.below T) rfl (fun K hK => ?_)
            have HT := Lib.hid T
            have H1 := Lib.hid h1
            have H5 := Lib.hid h5
            refine app17 rfl _ _ 26 9 1 16 (.string ByteArray.empty) rfl Try.underlying26 str_info rfl (by decide) (by decide) wd.heap.size _ nc (strV x3) rfl H1.out _ 1 [.string ⟨b.toArray⟩] rfl (src_own H5.out) (by intro u hu; simp at hu; subst hu; rfl) (by omega) HT.out.size ?_
            intro v2 V11 h2 g2
            replace T := T.grown g2 T.size (fun j ej => (h1.lt j ej).1)
            clear g2 h1 h5 H1 H5 HT
            go_wp2_with fail
            refine consC (i := 8) (by kernel_rfl) (by kernel_rfl) (Xd.below T) rfl (fun K hK => ?_)
            go_wp2_with fail
            refine lastC (by kernel_rfl) (by kernel_rfl) (Xd.below T) (of_decide_eq_true (by kernel_rfl)) ?_
            refine any_seqI [9] [_] _ _ _ rfl (by kernel_rfl) ?_
            obtain ⟨g1, c1, rfl, _⟩ := own_slice9 h2
            have X := Xd.below T
            have R := Rd.below T
            have B0 := Bd.trans (T.mono Bd.size)
            have HR := Lib.hid R
            have HB := Lib.hid B0
            have H2 := Lib.hid h2
            clear h2 T
            have kx0 := X.cell 0 _ rfl
            have kx1 := X.cell 1 _ rfl
            have kx2 := X.cell 2 _ rfl
            have kx3 := X.cell 3 _ rfl
            have kx4 := X.cell 4 _ rfl
            have kx5 := X.cell 5 _ rfl
            have kx6 := X.cell 6 _ rfl
            have kx7 := X.cell 7 _ rfl
            have fkx0 := X.frozen 0
            have fkx1 := X.frozen 1
            have fkx2 := X.frozen 2
            have fkx3 := X.frozen 3
            have fkx4 := X.frozen 4
            have fkx5 := X.frozen 5
            have fkx6 := X.frozen 6
            have fkx7 := X.frozen 7
            have kz0 := R.cell 0 _ rfl
            have kz1 := R.cell 1 _ rfl
            have kz2 := R.cell 2 _ rfl
            have kz3 := R.cell 3 _ rfl
            have kz4 := R.cell 4 _ rfl
            have kz5 := R.cell 5 _ rfl
            have kz6 := R.cell 6 _ rfl
            have kz7 := R.cell 7 _ rfl
            have fkz0 := R.frozen 0
            have fkz1 := R.frozen 1
            have fkz2 := R.frozen 2
            have fkz3 := R.frozen 3
            have fkz4 := R.frozen 4
            have fkz5 := R.frozen 5
            have fkz6 := R.frozen 6
            have fkz7 := R.frozen 7
            go_wp2_with fail
            have BZ := bel_put8 (B := w.heap.size + 1) (HB.out.setCell (p := ⟨w.heap.size, 7, none⟩) (Nat.le_refl _) (.slice g1 (nc + 1) c1)) (by omega)
            refine bodyPost_ret (results_st2 Try.results49 _ _ (w.heap.size + 1) _ rfl rfl ((HR.out.other w.heap.size 7 _ (by omega)).put8 _ _ _ _ _ _ _ _)) rfl ⟨_, _, _, rfl, BZ _ _ _ _ _ _ _ _, H', fun V hV hSV => ?_⟩
            have ON := own_put8 (own_setlo H2.out (k := w.heap.size) 7 (by omega) (.slice g1 (nc + 1) c1)) (k := w.heap.size + 1) (by omega)
            refine ⟨hSV.op, hSV.hi, hSV.ho, IsTxt.own (B := wd.heap.size) (n := nc + 1) (l := x3 ++ [b]) ?_ (by omega) ?_, hSV.so, hSV.sh, ?_⟩
            · rw [show strV (x3 ++ [b]) = strV x3 ++ [.string ⟨b.toArray⟩] by simp [strV]]; exact owns_agr (ON _ _ _ _ _ _ _ _) (by omega) (by decide) hV
            · intro t ht
              rcases List.mem_append.1 ht with ht | ht
              · exact hSV.ce.bound t ht
              · rw [List.mem_singleton.1 ht]; exact hbl
            · exact shp_own (ON (.bool true) (.bool true) (.bool true) (.bool true) (.bool true) (.bool true) (.bool true) (.bool true))
        · have hd : doesS (x1, x2, x3) (99 :: b) = none := by
            unfold doesS
            rw [if_neg hs1]
            simp only
            rw [if_neg (by rw [HN.out.2.2.1]; exact fun h => hc h.2), if_neg (by simp)]
          have m1 : decide (nc < 16) = false := decide_eq_false hc
          have m3 : (16 : Int) ≤ (nc : Int) := by omega
          rw [doesR_no (hd)]
          simp only
          clear hd
          try clear he
          have kx0 := X.cell 0 _ rfl
          have kx1 := X.cell 1 _ rfl
          have kx2 := X.cell 2 _ rfl
          have kx3 := X.cell 3 _ rfl
          have kx4 := X.cell 4 _ rfl
          have kx5 := X.cell 5 _ rfl
          have kx6 := X.cell 6 _ rfl
          have kx7 := X.cell 7 _ rfl
          have fkx0 := X.frozen 0
          have fkx1 := X.frozen 1
          have fkx2 := X.frozen 2
          have fkx3 := X.frozen 3
          have fkx4 := X.frozen 4
          have fkx5 := X.frozen 5
          have fkx6 := X.frozen 6
          have fkx7 := X.frozen 7
          go_enter Try.func49, Try.ntmps49
          go_wp2_with fail
          exact bodyPost_ret (results_st2 Try.results49 _ _ (w.heap.size + 1) _ rfl rfl (sbox2 _ _ _ _)) rfl ⟨_, _, _, rfl, bel2 w _ _, _, fun V _ h => h⟩
      · have e1 : ((c.toNat : Int) == 99) = false := by
          rw [beq_eq_false_iff_ne]
          intro h
          exact c9 (UInt8.toNat_inj.1 (by have : (99 : UInt8).toNat = 99 := rfl; omega))
        by_cases c1 : c = 101
        · subst c1
          by_cases hc : no < 64
          · cases hT : takeE b with
            | none =>
              have hd : doesS (x1, x2, x3) (101 :: b) = none := by
                unfold doesS
                rw [if_neg hs1]
                simp only
                rw [if_neg (by simp), if_pos ⟨trivial, by rw [HN.out.1]; exact hc⟩, hT]
                rfl
              have hE := takeER_bad17 hT
              have m1 : (no : Int) < 64 := by omega
              have hb1 : ¬ ((b.length : Int) + 1 < 1) := by omega
              rw [doesR_no hd]
              simp only
              clear hd hT
              have kx0 := X.cell 0 _ rfl
              have kx1 := X.cell 1 _ rfl
              have kx2 := X.cell 2 _ rfl
              have kx3 := X.cell 3 _ rfl
              have kx4 := X.cell 4 _ rfl
              have kx5 := X.cell 5 _ rfl
              have kx6 := X.cell 6 _ rfl
              have kx7 := X.cell 7 _ rfl
              have fkx0 := X.frozen 0
              have fkx1 := X.frozen 1
              have fkx2 := X.frozen 2
              have fkx3 := X.frozen 3
              have fkx4 := X.frozen 4
              have fkx5 := X.frozen 5
              have fkx6 := X.frozen 6
              have fkx7 := X.frozen 7
              go_enter Try.func49, Try.ntmps49
              go_wp2_with fail
              refine (rtake6_any b (by omega) _).mono ?_
              rintro e wb ⟨rfl, bb⟩
              rw [hE]
              clear kx0 fkx0 kx1 fkx1 kx2 fkx2 kx3 fkx3 kx4 fkx4 kx5 fkx5 kx6 fkx6 kx7 fkx7
              have lR := Lib.hid (R.below bb).lt
              replace X := (X.below bb).alloc (.cells #[.int .i64 0, .int .i64 0, .string ⟨#[]⟩, .string ⟨#[]⟩] 30)
              replace R := (R.below bb).alloc (.cells #[.int .i64 0, .int .i64 0, .string ⟨#[]⟩, .string ⟨#[]⟩] 30)
              replace B0 := B0.trans (bb.mono B0.size)
              have lwb := B0.size
              replace B0 := B0.alloc B0.size (.cells #[.int .i64 0, .int .i64 0, .string ⟨#[]⟩, .string ⟨#[]⟩] 30)
              have kx0 := X.cell 0 _ rfl
              have kx1 := X.cell 1 _ rfl
              have kx2 := X.cell 2 _ rfl
              have kx3 := X.cell 3 _ rfl
              have kx4 := X.cell 4 _ rfl
              have kx5 := X.cell 5 _ rfl
              have kx6 := X.cell 6 _ rfl
              have kx7 := X.cell 7 _ rfl
              have fkx0 := X.frozen 0
              have fkx1 := X.frozen 1
              have fkx2 := X.frozen 2
              have fkx3 := X.frozen 3
              have fkx4 := X.frozen 4
              have fkx5 := X.frozen 5
              have fkx6 := X.frozen 6
              have fkx7 := X.frozen 7
              have kz0 := R.cell 0 _ rfl
              have kz1 := R.cell 1 _ rfl
              have kz2 := R.cell 2 _ rfl
              have kz3 := R.cell 3 _ rfl
              have kz4 := R.cell 4 _ rfl
              have kz5 := R.cell 5 _ rfl
              have kz6 := R.cell 6 _ rfl
              have kz7 := R.cell 7 _ rfl
              have fkz0 := R.frozen 0
              have fkz1 := R.frozen 1
              have fkz2 := R.frozen 2
              have fkz3 := R.frozen 3
              have fkz4 := R.frozen 4
              have fkz5 := R.frozen 5
              have fkz6 := R.frozen 6
              have fkz7 := R.frozen 7
              go_wp2_with fail
              have BZ := bel_put8 (B := w.heap.size + 1) B0 (by omega)
              refine bodyPost_ret (results_st2 Try.results49 _ _ (w.heap.size + 1) _ rfl rfl (R.put8 _ _ _ _ _ _ _ _)) rfl ⟨_, _, _, rfl, BZ _ _ _ _ _ _ _ _, _, fun V _ h => h⟩
            | some y =>
              have hd : doesS (x1, x2, x3) (101 :: b) = some (x1 ++ [y], x2, x3) := by
                unfold doesS
                rw [if_neg hs1]
                simp only
                rw [if_neg (by simp), if_pos ⟨trivial, by rw [HN.out.1]; exact hc⟩, hT]
                rfl
              have hE := takeER_ok17 hT
              have m1 : (no : Int) < 64 := by omega
              have hb1 : ¬ ((b.length : Int) + 1 < 1) := by omega
              obtain ⟨y0, y1, y2, y3⟩ := y
              rw [doesR_yes hd]
              simp only
              clear hd hT
              have kx0 := X.cell 0 _ rfl
              have kx1 := X.cell 1 _ rfl
              have kx2 := X.cell 2 _ rfl
              have kx3 := X.cell 3 _ rfl
              have kx4 := X.cell 4 _ rfl
              have kx5 := X.cell 5 _ rfl
              have kx6 := X.cell 6 _ rfl
              have kx7 := X.cell 7 _ rfl
              have fkx0 := X.frozen 0
              have fkx1 := X.frozen 1
              have fkx2 := X.frozen 2
              have fkx3 := X.frozen 3
              have fkx4 := X.frozen 4
              have fkx5 := X.frozen 5
              have fkx6 := X.frozen 6
              have fkx7 := X.frozen 7
              go_enter Try.func49, Try.ntmps49
              go_wp2_with fail
              refine (rtake6_any b (by omega) _).mono ?_
              rintro e wb ⟨rfl, bb⟩
              rw [hE]
              clear kx0 fkx0 kx1 fkx1 kx2 fkx2 kx3 fkx3 kx4 fkx4 kx5 fkx5 kx6 fkx6 kx7 fkx7
              have lR := Lib.hid (R.below bb).lt
              replace X := (X.below bb).alloc (.cells #[.int .i64 y0, .int .i64 y1, .string ⟨y2.toArray⟩, .string ⟨y3.toArray⟩] 30)
              replace R := (R.below bb).alloc (.cells #[.int .i64 y0, .int .i64 y1, .string ⟨y2.toArray⟩, .string ⟨y3.toArray⟩] 30)
              replace B0 := B0.trans (bb.mono B0.size)
              have lwb := B0.size
              replace B0 := B0.alloc B0.size (.cells #[.int .i64 y0, .int .i64 y1, .string ⟨y2.toArray⟩, .string ⟨y3.toArray⟩] 30)
              have kx0 := X.cell 0 _ rfl
              have kx1 := X.cell 1 _ rfl
              have kx2 := X.cell 2 _ rfl
              have kx3 := X.cell 3 _ rfl
              have kx4 := X.cell 4 _ rfl
              have kx5 := X.cell 5 _ rfl
              have kx6 := X.cell 6 _ rfl
              have kx7 := X.cell 7 _ rfl
              have fkx0 := X.frozen 0
              have fkx1 := X.frozen 1
              have fkx2 := X.frozen 2
              have fkx3 := X.frozen 3
              have fkx4 := X.frozen 4
              have fkx5 := X.frozen 5
              have fkx6 := X.frozen 6
              have fkx7 := X.frozen 7
              have kz0 := R.cell 0 _ rfl
              have kz1 := R.cell 1 _ rfl
              have kz2 := R.cell 2 _ rfl
              have kz3 := R.cell 3 _ rfl
              have kz4 := R.cell 4 _ rfl
              have kz5 := R.cell 5 _ rfl
              have kz6 := R.cell 6 _ rfl
              have kz7 := R.cell 7 _ rfl
              have fkz0 := R.frozen 0
              have fkz1 := R.frozen 1
              have fkz2 := R.frozen 2
              have fkz3 := R.frozen 3
              have fkz4 := R.frozen 4
              have fkz5 := R.frozen 5
              have fkz6 := R.frozen 6
              have fkz7 := R.frozen 7
              have Y := SBox.new wb 30 #[.int .i64 y0, .int .i64 y1, .string ⟨y2.toArray⟩, .string ⟨y3.toArray⟩]
              go_wp2_with fail
              clear kx0 fkx0 kx1 fkx1 kx2 fkx2 kx3 fkx3 kx4 fkx4 kx5 fkx5 kx6 fkx6 kx7 fkx7 kz0 fkz0 kz1 fkz1 kz2 fkz2 kz3 fkz3 kz4 fkz4 kz5 fkz5 kz6 fkz6 kz7 fkz7
              refine wp_region_any (by kernel_rfl) ?_
              change wpAny _ _ _ _ _ _ _ (World.drew _)
              generalize hwd : World.drew _ = wd
              have Xd := X.drew
              have Rd := R.drew
              have Bd := B0.drew
              rw [hwd] at Xd Rd Bd
              have Yd := Y.drew
              rw [hwd] at Yd
              clear Y
              clear hwd X R B0
              have HSRC : Hid (Src17 wd 4 _ no (recV evV x1)) := S1.below Bd
              have DS : w.heap.size + 1 < wd.heap.size := Rd.lt
              have T : Below wd.heap.size wd wd := Below.refl _ _
              refine any_of_C (C := (fun V => SBox V w.heap.size 28 #[.string ⟨s.toArray⟩, .string ⟨p.toArray⟩, .int .i64 r, .int .i64 f, .bool o, .slice ao no co, .slice ah nh ch, .slice ac nc cc] ∧ SBox V wb.heap.size 30 #[.int .i64 y0, .int .i64 y1, .string ⟨y2.toArray⟩, .string ⟨y3.toArray⟩])) 8 _ _ _ _ ?_
              refine takeD 1 (.pointer (some ⟨w.heap.size, 5, none⟩)) rfl (by kernel_rfl) (fun _ _ _ h => h) (fun V hV => by have hV0 := hV.1; have hV1 := hV.2; have q0 := hV1.cell 0 _ rfl; have q1 := hV1.cell 1 _ rfl; have q2 := hV1.cell 2 _ rfl; have q3 := hV1.cell 3 _ rfl; have ky0 := hV0.cell 0 _ rfl; have ky1 := hV0.cell 1 _ rfl; have ky2 := hV0.cell 2 _ rfl; have ky3 := hV0.cell 3 _ rfl; have ky4 := hV0.cell 4 _ rfl; have ky5 := hV0.cell 5 _ rfl; have ky6 := hV0.cell 6 _ rfl; have ky7 := hV0.cell 7 _ rfl; go_simp) ?_
              refine takeD 2 (.slice ao no co) rfl (by kernel_rfl) (fun _ _ _ h => h) (fun V hV => by have hV0 := hV.1; have hV1 := hV.2; have q0 := hV1.cell 0 _ rfl; have q1 := hV1.cell 1 _ rfl; have q2 := hV1.cell 2 _ rfl; have q3 := hV1.cell 3 _ rfl; have ky0 := hV0.cell 0 _ rfl; have ky1 := hV0.cell 1 _ rfl; have ky2 := hV0.cell 2 _ rfl; have ky3 := hV0.cell 3 _ rfl; have ky4 := hV0.cell 4 _ rfl; have ky5 := hV0.cell 5 _ rfl; have ky6 := hV0.cell 6 _ rfl; have ky7 := hV0.cell 7 _ rfl; go_simp) ?_
              refine takeD 4 (.agg #[.int .i64 y0, .int .i64 y1, .string ⟨y2.toArray⟩, .string ⟨y3.toArray⟩]) rfl (by kernel_rfl) (fun _ _ _ h => h) (fun V hV => by have hV0 := hV.1; have hV1 := hV.2; have q0 := hV1.cell 0 _ rfl; have q1 := hV1.cell 1 _ rfl; have q2 := hV1.cell 2 _ rfl; have q3 := hV1.cell 3 _ rfl; have ky0 := hV0.cell 0 _ rfl; have ky1 := hV0.cell 1 _ rfl; have ky2 := hV0.cell 2 _ rfl; have ky3 := hV0.cell 3 _ rfl; have ky4 := hV0.cell 4 _ rfl; have ky5 := hV0.cell 5 _ rfl; have ky6 := hV0.cell 6 _ rfl; have ky7 := hV0.cell 7 _ rfl; go_simp) ?_
              refine fork2 (i := 0) (j := 5) (by kernel_rfl) (by kernel_rfl) ⟨Xd.below T, Yd.below T⟩ rfl rfl (fun K hK => ?_) (fun K hK => ?_)
              · skip
                go_wp2_with fail
                have h0 := owns_low (own_empty8 wd 30 4) T.size
                replace T := T.alloc T.size (.cells #[] 30)
                generalize World.alloc wd (.cells #[] 30) = V1 at h0 T ⊢
                refine fork2 (i := 3) (j := 5) (by kernel_rfl) (by kernel_rfl) ⟨Xd.below T, Yd.below T⟩ rfl rfl (fun K hK => ?_) (fun K hK => ?_)
                · skip
                  have HT := Lib.hid T
                  have H0 := Lib.hid h0
                  refine app17 rfl _ _ 24 30 4 48 (.agg #[.int .i64 0, .int .i64 0, .string ByteArray.empty, .string ByteArray.empty]) rfl Try.underlying24 sto_info_ev rfl (by decide) (by decide) wd.heap.size _ 0 [] rfl H0.out _ no (recV evV x1) rfl (HSRC.out.below HT.out) (ev_one17 x1) (by omega) HT.out.size ?_
                  intro v1 V2 h1 g1
                  simp only [Nat.zero_add, List.nil_append] at h1
                  replace T := T.grown g1 T.size (fun j ej => (h0.lt j ej).1)
                  clear g1 h0 H0 HT
                  go_wp2_with fail
                  refine consC (i := 5) (by kernel_rfl) (by kernel_rfl) ⟨Xd.below T, Yd.below T⟩ rfl (fun K hK => ?_)
                  go_wp2_with fail
                  have h5 : (V2.alloc (.cells #[.int .i64 y0, .int .i64 y1, .string ⟨y2.toArray⟩, .string ⟨y3.toArray⟩] 30)).ownsRow wd.heap.size 30 4 (.slice (some ⟨V2.heap.size, 0, none⟩) 1 1) 1 [.int .i64 y0, .int .i64 y1, .string ⟨y2.toArray⟩, .string ⟨y3.toArray⟩] := owns_low (own_one17 V2 30 4 [.int .i64 y0, .int .i64 y1, .string ⟨y2.toArray⟩, .string ⟨y3.toArray⟩] rfl) T.size
                  replace h1 := h1.alloc (.cells #[.int .i64 y0, .int .i64 y1, .string ⟨y2.toArray⟩, .string ⟨y3.toArray⟩] 30)
                  replace T := T.alloc T.size (.cells #[.int .i64 y0, .int .i64 y1, .string ⟨y2.toArray⟩, .string ⟨y3.toArray⟩] 30)
                  generalize World.alloc V2 (.cells #[.int .i64 y0, .int .i64 y1, .string ⟨y2.toArray⟩, .string ⟨y3.toArray⟩] 30) = V3 at h5 T h1 ⊢
                  refine consC (i := 6) (by kernel_rfl) (by kernel_rfl) ⟨Xd.below T, Yd.below T⟩ rfl (fun K hK => ?_)
                  have HT := Lib.hid T
                  have H1 := Lib.hid h1
                  have H5 := Lib.hid h5
                  refine app17 rfl _ _ 24 30 4 48 (.agg #[.int .i64 0, .int .i64 0, .string ByteArray.empty, .string ByteArray.empty]) rfl Try.underlying24 sto_info_ev rfl (by decide) (by decide) wd.heap.size _ no (recV evV x1) rfl H1.out _ 1 [.int .i64 y0, .int .i64 y1, .string ⟨y2.toArray⟩, .string ⟨y3.toArray⟩] rfl (src_own H5.out) (by intro u hu; simp at hu; rcases hu with rfl | rfl | rfl | rfl; all_goals rfl) (by omega) HT.out.size ?_
                  intro v2 V4 h2 g2
                  replace T := T.grown g2 T.size (fun j ej => (h1.lt j ej).1)
                  clear g2 h1 h5 H1 H5 HT
                  go_wp2_with fail
                  refine consC (i := 7) (by kernel_rfl) (by kernel_rfl) ⟨Xd.below T, Yd.below T⟩ rfl (fun K hK => ?_)
                  go_wp2_with fail
                  refine lastC (by kernel_rfl) (by kernel_rfl) ⟨Xd.below T, Yd.below T⟩ (of_decide_eq_true (by kernel_rfl)) ?_
                  refine any_seqI [8] [_] _ _ _ rfl (by kernel_rfl) ?_
                  obtain ⟨g1, c1, rfl, _⟩ := own_slice9 h2
                  have X := Xd.below T
                  have R := Rd.below T
                  have B0 := Bd.trans (T.mono Bd.size)
                  have HR := Lib.hid R
                  have HB := Lib.hid B0
                  have H2 := Lib.hid h2
                  clear h2 T
                  have kx0 := X.cell 0 _ rfl
                  have kx1 := X.cell 1 _ rfl
                  have kx2 := X.cell 2 _ rfl
                  have kx3 := X.cell 3 _ rfl
                  have kx4 := X.cell 4 _ rfl
                  have kx5 := X.cell 5 _ rfl
                  have kx6 := X.cell 6 _ rfl
                  have kx7 := X.cell 7 _ rfl
                  have fkx0 := X.frozen 0
                  have fkx1 := X.frozen 1
                  have fkx2 := X.frozen 2
                  have fkx3 := X.frozen 3
                  have fkx4 := X.frozen 4
                  have fkx5 := X.frozen 5
                  have fkx6 := X.frozen 6
                  have fkx7 := X.frozen 7
                  have kz0 := R.cell 0 _ rfl
                  have kz1 := R.cell 1 _ rfl
                  have kz2 := R.cell 2 _ rfl
                  have kz3 := R.cell 3 _ rfl
                  have kz4 := R.cell 4 _ rfl
                  have kz5 := R.cell 5 _ rfl
                  have kz6 := R.cell 6 _ rfl
                  have kz7 := R.cell 7 _ rfl
                  have fkz0 := R.frozen 0
                  have fkz1 := R.frozen 1
                  have fkz2 := R.frozen 2
                  have fkz3 := R.frozen 3
                  have fkz4 := R.frozen 4
                  have fkz5 := R.frozen 5
                  have fkz6 := R.frozen 6
                  have fkz7 := R.frozen 7
                  go_wp2_with fail
                  have BZ := bel_put8 (B := w.heap.size + 1) (HB.out.setCell (p := ⟨w.heap.size, 5, none⟩) (Nat.le_refl _) (.slice g1 (no + 1) c1)) (by omega)
                  refine bodyPost_ret (results_st2 Try.results49 _ _ (w.heap.size + 1) _ rfl rfl ((HR.out.other w.heap.size 5 _ (by omega)).put8 _ _ _ _ _ _ _ _)) rfl ⟨_, _, _, rfl, BZ _ _ _ _ _ _ _ _, H', fun V hV hSV => ?_⟩
                  have ON := own_put8 (own_setlo H2.out (k := w.heap.size) 5 (by omega) (.slice g1 (no + 1) c1)) (k := w.heap.size + 1) (by omega)
                  refine ⟨IsRec.own evV_len (by omega) (e := 30) (B := wd.heap.size) (n := no + 1) ?_ (by omega), hSV.hi, hSV.ho, hSV.ce, ?_, hSV.sh, hSV.sc⟩
                  · rw [recV_append]; exact owns_agr (ON _ _ _ _ _ _ _ _) (by omega) (by decide) hV
                  · exact shp_own (ON (.bool true) (.bool true) (.bool true) (.bool true) (.bool true) (.bool true) (.bool true) (.bool true))
                · skip
                  go_wp2_with fail
                  have h5 : (V1.alloc (.cells #[.int .i64 y0, .int .i64 y1, .string ⟨y2.toArray⟩, .string ⟨y3.toArray⟩] 30)).ownsRow wd.heap.size 30 4 (.slice (some ⟨V1.heap.size, 0, none⟩) 1 1) 1 [.int .i64 y0, .int .i64 y1, .string ⟨y2.toArray⟩, .string ⟨y3.toArray⟩] := owns_low (own_one17 V1 30 4 [.int .i64 y0, .int .i64 y1, .string ⟨y2.toArray⟩, .string ⟨y3.toArray⟩] rfl) T.size
                  have ne5 : ¬ V1.heap.size = wd.heap.size := fun e => by have : wd.heap.size < V1.heap.size := (h0.lt _ rfl).2; omega
                  replace h0 := h0.alloc (.cells #[.int .i64 y0, .int .i64 y1, .string ⟨y2.toArray⟩, .string ⟨y3.toArray⟩] 30)
                  replace T := T.alloc T.size (.cells #[.int .i64 y0, .int .i64 y1, .string ⟨y2.toArray⟩, .string ⟨y3.toArray⟩] 30)
                  generalize World.alloc V1 (.cells #[.int .i64 y0, .int .i64 y1, .string ⟨y2.toArray⟩, .string ⟨y3.toArray⟩] 30) = V5 at h5 T h0 ⊢
                  refine consC (i := 3) (by kernel_rfl) (by kernel_rfl) ⟨Xd.below T, Yd.below T⟩ rfl (fun K hK => ?_)
                  have HT := Lib.hid T
                  have H0 := Lib.hid h0
                  refine app17 rfl _ _ 24 30 4 48 (.agg #[.int .i64 0, .int .i64 0, .string ByteArray.empty, .string ByteArray.empty]) rfl Try.underlying24 sto_info_ev rfl (by decide) (by decide) wd.heap.size _ 0 [] rfl H0.out _ no (recV evV x1) rfl (HSRC.out.below HT.out) (ev_one17 x1) (by omega) HT.out.size ?_
                  intro v1 V6 h1 g1
                  simp only [Nat.zero_add, List.nil_append] at h1
                  replace h5 := World.ownsRow.kept h5 g1 (.inr (fun e => ne5 (Option.some.inj e)))
                  replace T := T.grown g1 T.size (fun j ej => (h0.lt j ej).1)
                  clear g1 h0 H0 HT
                  go_wp2_with fail
                  refine consC (i := 6) (by kernel_rfl) (by kernel_rfl) ⟨Xd.below T, Yd.below T⟩ rfl (fun K hK => ?_)
                  have HT := Lib.hid T
                  have H1 := Lib.hid h1
                  have H5 := Lib.hid h5
                  refine app17 rfl _ _ 24 30 4 48 (.agg #[.int .i64 0, .int .i64 0, .string ByteArray.empty, .string ByteArray.empty]) rfl Try.underlying24 sto_info_ev rfl (by decide) (by decide) wd.heap.size _ no (recV evV x1) rfl H1.out _ 1 [.int .i64 y0, .int .i64 y1, .string ⟨y2.toArray⟩, .string ⟨y3.toArray⟩] rfl (src_own H5.out) (by intro u hu; simp at hu; rcases hu with rfl | rfl | rfl | rfl; all_goals rfl) (by omega) HT.out.size ?_
                  intro v2 V7 h2 g2
                  replace T := T.grown g2 T.size (fun j ej => (h1.lt j ej).1)
                  clear g2 h1 h5 H1 H5 HT
                  go_wp2_with fail
                  refine consC (i := 7) (by kernel_rfl) (by kernel_rfl) ⟨Xd.below T, Yd.below T⟩ rfl (fun K hK => ?_)
                  go_wp2_with fail
                  refine lastC (by kernel_rfl) (by kernel_rfl) ⟨Xd.below T, Yd.below T⟩ (of_decide_eq_true (by kernel_rfl)) ?_
                  refine any_seqI [8] [_] _ _ _ rfl (by kernel_rfl) ?_
                  obtain ⟨g1, c1, rfl, _⟩ := own_slice9 h2
                  have X := Xd.below T
                  have R := Rd.below T
                  have B0 := Bd.trans (T.mono Bd.size)
                  have HR := Lib.hid R
                  have HB := Lib.hid B0
                  have H2 := Lib.hid h2
                  clear h2 T
                  have kx0 := X.cell 0 _ rfl
                  have kx1 := X.cell 1 _ rfl
                  have kx2 := X.cell 2 _ rfl
                  have kx3 := X.cell 3 _ rfl
                  have kx4 := X.cell 4 _ rfl
                  have kx5 := X.cell 5 _ rfl
                  have kx6 := X.cell 6 _ rfl
                  have kx7 := X.cell 7 _ rfl
                  have fkx0 := X.frozen 0
                  have fkx1 := X.frozen 1
                  have fkx2 := X.frozen 2
                  have fkx3 := X.frozen 3
                  have fkx4 := X.frozen 4
                  have fkx5 := X.frozen 5
                  have fkx6 := X.frozen 6
                  have fkx7 := X.frozen 7
                  have kz0 := R.cell 0 _ rfl
                  have kz1 := R.cell 1 _ rfl
                  have kz2 := R.cell 2 _ rfl
                  have kz3 := R.cell 3 _ rfl
                  have kz4 := R.cell 4 _ rfl
                  have kz5 := R.cell 5 _ rfl
                  have kz6 := R.cell 6 _ rfl
                  have kz7 := R.cell 7 _ rfl
                  have fkz0 := R.frozen 0
                  have fkz1 := R.frozen 1
                  have fkz2 := R.frozen 2
                  have fkz3 := R.frozen 3
                  have fkz4 := R.frozen 4
                  have fkz5 := R.frozen 5
                  have fkz6 := R.frozen 6
                  have fkz7 := R.frozen 7
                  go_wp2_with fail
                  have BZ := bel_put8 (B := w.heap.size + 1) (HB.out.setCell (p := ⟨w.heap.size, 5, none⟩) (Nat.le_refl _) (.slice g1 (no + 1) c1)) (by omega)
                  refine bodyPost_ret (results_st2 Try.results49 _ _ (w.heap.size + 1) _ rfl rfl ((HR.out.other w.heap.size 5 _ (by omega)).put8 _ _ _ _ _ _ _ _)) rfl ⟨_, _, _, rfl, BZ _ _ _ _ _ _ _ _, H', fun V hV hSV => ?_⟩
                  have ON := own_put8 (own_setlo H2.out (k := w.heap.size) 5 (by omega) (.slice g1 (no + 1) c1)) (k := w.heap.size + 1) (by omega)
                  refine ⟨IsRec.own evV_len (by omega) (e := 30) (B := wd.heap.size) (n := no + 1) ?_ (by omega), hSV.hi, hSV.ho, hSV.ce, ?_, hSV.sh, hSV.sc⟩
                  · rw [recV_append]; exact owns_agr (ON _ _ _ _ _ _ _ _) (by omega) (by decide) hV
                  · exact shp_own (ON (.bool true) (.bool true) (.bool true) (.bool true) (.bool true) (.bool true) (.bool true) (.bool true))
              · skip
                go_wp2_with fail
                have h5 : (wd.alloc (.cells #[.int .i64 y0, .int .i64 y1, .string ⟨y2.toArray⟩, .string ⟨y3.toArray⟩] 30)).ownsRow wd.heap.size 30 4 (.slice (some ⟨wd.heap.size, 0, none⟩) 1 1) 1 [.int .i64 y0, .int .i64 y1, .string ⟨y2.toArray⟩, .string ⟨y3.toArray⟩] := owns_low (own_one17 wd 30 4 [.int .i64 y0, .int .i64 y1, .string ⟨y2.toArray⟩, .string ⟨y3.toArray⟩] rfl) T.size
                replace T := T.alloc T.size (.cells #[.int .i64 y0, .int .i64 y1, .string ⟨y2.toArray⟩, .string ⟨y3.toArray⟩] 30)
                generalize World.alloc wd (.cells #[.int .i64 y0, .int .i64 y1, .string ⟨y2.toArray⟩, .string ⟨y3.toArray⟩] 30) = V8 at h5 T ⊢
                refine consC (i := 0) (by kernel_rfl) (by kernel_rfl) ⟨Xd.below T, Yd.below T⟩ rfl (fun K hK => ?_)
                go_wp2_with fail
                have h0 := owns_low (own_empty8 V8 30 4) T.size
                have ne5 : ¬ wd.heap.size = V8.heap.size := fun e => by have : wd.heap.size < V8.heap.size := (h5.lt _ rfl).2; omega
                replace h5 := h5.alloc (.cells #[] 30)
                replace T := T.alloc T.size (.cells #[] 30)
                generalize World.alloc V8 (.cells #[] 30) = V9 at h0 T h5 ⊢
                refine consC (i := 3) (by kernel_rfl) (by kernel_rfl) ⟨Xd.below T, Yd.below T⟩ rfl (fun K hK => ?_)
                have HT := Lib.hid T
                have H0 := Lib.hid h0
                refine app17 rfl _ _ 24 30 4 48 (.agg #[.int .i64 0, .int .i64 0, .string ByteArray.empty, .string ByteArray.empty]) rfl Try.underlying24 sto_info_ev rfl (by decide) (by decide) wd.heap.size _ 0 [] rfl H0.out _ no (recV evV x1) rfl (HSRC.out.below HT.out) (ev_one17 x1) (by omega) HT.out.size ?_
                intro v1 V10 h1 g1
                simp only [Nat.zero_add, List.nil_append] at h1
                replace h5 := World.ownsRow.kept h5 g1 (.inr (fun e => ne5 (Option.some.inj e)))
                replace T := T.grown g1 T.size (fun j ej => (h0.lt j ej).1)
                clear g1 h0 H0 HT
                go_wp2_with fail
                refine consC (i := 6) (by kernel_rfl) (by kernel_rfl) ⟨Xd.below T, Yd.below T⟩ rfl (fun K hK => ?_)
                have HT := Lib.hid T
                have H1 := Lib.hid h1
                have H5 := Lib.hid h5
                refine app17 rfl _ _ 24 30 4 48 (.agg #[.int .i64 0, .int .i64 0, .string ByteArray.empty, .string ByteArray.empty]) rfl Try.underlying24 sto_info_ev rfl (by decide) (by decide) wd.heap.size _ no (recV evV x1) rfl H1.out _ 1 [.int .i64 y0, .int .i64 y1, .string ⟨y2.toArray⟩, .string ⟨y3.toArray⟩] rfl (src_own H5.out) (by intro u hu; simp at hu; rcases hu with rfl | rfl | rfl | rfl; all_goals rfl) (by omega) HT.out.size ?_
                intro v2 V11 h2 g2
                replace T := T.grown g2 T.size (fun j ej => (h1.lt j ej).1)
                clear g2 h1 h5 H1 H5 HT
                go_wp2_with fail
                refine consC (i := 7) (by kernel_rfl) (by kernel_rfl) ⟨Xd.below T, Yd.below T⟩ rfl (fun K hK => ?_)
                go_wp2_with fail
                refine lastC (by kernel_rfl) (by kernel_rfl) ⟨Xd.below T, Yd.below T⟩ (of_decide_eq_true (by kernel_rfl)) ?_
                refine any_seqI [8] [_] _ _ _ rfl (by kernel_rfl) ?_
                obtain ⟨g1, c1, rfl, _⟩ := own_slice9 h2
                have X := Xd.below T
                have R := Rd.below T
                have B0 := Bd.trans (T.mono Bd.size)
                have HR := Lib.hid R
                have HB := Lib.hid B0
                have H2 := Lib.hid h2
                clear h2 T
                have kx0 := X.cell 0 _ rfl
                have kx1 := X.cell 1 _ rfl
                have kx2 := X.cell 2 _ rfl
                have kx3 := X.cell 3 _ rfl
                have kx4 := X.cell 4 _ rfl
                have kx5 := X.cell 5 _ rfl
                have kx6 := X.cell 6 _ rfl
                have kx7 := X.cell 7 _ rfl
                have fkx0 := X.frozen 0
                have fkx1 := X.frozen 1
                have fkx2 := X.frozen 2
                have fkx3 := X.frozen 3
                have fkx4 := X.frozen 4
                have fkx5 := X.frozen 5
                have fkx6 := X.frozen 6
                have fkx7 := X.frozen 7
                have kz0 := R.cell 0 _ rfl
                have kz1 := R.cell 1 _ rfl
                have kz2 := R.cell 2 _ rfl
                have kz3 := R.cell 3 _ rfl
                have kz4 := R.cell 4 _ rfl
                have kz5 := R.cell 5 _ rfl
                have kz6 := R.cell 6 _ rfl
                have kz7 := R.cell 7 _ rfl
                have fkz0 := R.frozen 0
                have fkz1 := R.frozen 1
                have fkz2 := R.frozen 2
                have fkz3 := R.frozen 3
                have fkz4 := R.frozen 4
                have fkz5 := R.frozen 5
                have fkz6 := R.frozen 6
                have fkz7 := R.frozen 7
                go_wp2_with fail
                have BZ := bel_put8 (B := w.heap.size + 1) (HB.out.setCell (p := ⟨w.heap.size, 5, none⟩) (Nat.le_refl _) (.slice g1 (no + 1) c1)) (by omega)
                refine bodyPost_ret (results_st2 Try.results49 _ _ (w.heap.size + 1) _ rfl rfl ((HR.out.other w.heap.size 5 _ (by omega)).put8 _ _ _ _ _ _ _ _)) rfl ⟨_, _, _, rfl, BZ _ _ _ _ _ _ _ _, H', fun V hV hSV => ?_⟩
                have ON := own_put8 (own_setlo H2.out (k := w.heap.size) 5 (by omega) (.slice g1 (no + 1) c1)) (k := w.heap.size + 1) (by omega)
                refine ⟨IsRec.own evV_len (by omega) (e := 30) (B := wd.heap.size) (n := no + 1) ?_ (by omega), hSV.hi, hSV.ho, hSV.ce, ?_, hSV.sh, hSV.sc⟩
                · rw [recV_append]; exact owns_agr (ON _ _ _ _ _ _ _ _) (by omega) (by decide) hV
                · exact shp_own (ON (.bool true) (.bool true) (.bool true) (.bool true) (.bool true) (.bool true) (.bool true) (.bool true))
          · have hd : doesS (x1, x2, x3) (101 :: b) = none := by
              unfold doesS
              rw [if_neg hs1]
              simp only
              rw [if_neg (by simp), if_neg (by rw [HN.out.1]; exact fun h => hc h.2)]
            have m1 : decide (no < 64) = false := decide_eq_false hc
            have m3 : (64 : Int) ≤ (no : Int) := by omega
            rw [doesR_no (hd)]
            simp only
            clear hd
            try clear he
            have kx0 := X.cell 0 _ rfl
            have kx1 := X.cell 1 _ rfl
            have kx2 := X.cell 2 _ rfl
            have kx3 := X.cell 3 _ rfl
            have kx4 := X.cell 4 _ rfl
            have kx5 := X.cell 5 _ rfl
            have kx6 := X.cell 6 _ rfl
            have kx7 := X.cell 7 _ rfl
            have fkx0 := X.frozen 0
            have fkx1 := X.frozen 1
            have fkx2 := X.frozen 2
            have fkx3 := X.frozen 3
            have fkx4 := X.frozen 4
            have fkx5 := X.frozen 5
            have fkx6 := X.frozen 6
            have fkx7 := X.frozen 7
            go_enter Try.func49, Try.ntmps49
            go_wp2_with fail
            exact bodyPost_ret (results_st2 Try.results49 _ _ (w.heap.size + 1) _ rfl rfl (sbox2 _ _ _ _)) rfl ⟨_, _, _, rfl, bel2 w _ _, _, fun V _ h => h⟩
        · have e2 : ((c.toNat : Int) == 101) = false := by
            rw [beq_eq_false_iff_ne]
            intro h
            exact c1 (UInt8.toNat_inj.1 (by have : (101 : UInt8).toNat = 101 := rfl; omega))
          have hd : doesS (x1, x2, x3) (c :: b) = none := by
            unfold doesS
            rw [if_neg hs1]
            simp only
            rw [if_neg (fun h => c9 h.1), if_neg (fun h => c1 h.1)]
          rw [doesR_no (hd)]
          simp only
          clear hd
          try clear he
          have kx0 := X.cell 0 _ rfl
          have kx1 := X.cell 1 _ rfl
          have kx2 := X.cell 2 _ rfl
          have kx3 := X.cell 3 _ rfl
          have kx4 := X.cell 4 _ rfl
          have kx5 := X.cell 5 _ rfl
          have kx6 := X.cell 6 _ rfl
          have kx7 := X.cell 7 _ rfl
          have fkx0 := X.frozen 0
          have fkx1 := X.frozen 1
          have fkx2 := X.frozen 2
          have fkx3 := X.frozen 3
          have fkx4 := X.frozen 4
          have fkx5 := X.frozen 5
          have fkx6 := X.frozen 6
          have fkx7 := X.frozen 7
          go_enter Try.func49, Try.ntmps49
          go_wp2_with fail
          exact bodyPost_ret (results_st2 Try.results49 _ _ (w.heap.size + 1) _ rfl rfl (sbox2 _ _ _ _)) rfl ⟨_, _, _, rfl, bel2 w _ _, _, fun V _ h => h⟩
end Go.Proofs.Ytngllioidfffdaa
