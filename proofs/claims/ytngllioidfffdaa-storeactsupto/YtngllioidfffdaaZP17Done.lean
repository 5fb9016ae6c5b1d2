/-
  What store.done answers.
-/
import Derived.Test.YtngllioidfffdaaZP17Beh
import Derived.Test.YtngllioidfffdaaGV
import Derived.Test.YtngllioidfffdaaZP6Take
import Derived.Lib.Hide
namespace Go.Proofs.Ytngllioidfffdaa
set_option maxRecDepth 100000
open Go.RowKit
set_option linter.unusedVariables false
attribute [local go_sem] ba_size ba_get ba_extract take_drop_end
theorem phas1_any (s : List UInt8) (c : UInt8) (w : World) :
    Calls Try.prog 79 #[.string ⟨s.toArray⟩, .string ⟨#[c]⟩] w fun e w' => e = .returned (.bool (decide (s.head? = some c))) ∧ w' = w := by
  cases s with
  | nil =>
    go_enter Try.func79, Try.ntmps79
    go_wp2_with fail
    go_ret
    exact ⟨rfl, rfl⟩
  | cons b s =>
    have hl : (1 : Int) ≤ ((b :: s).length : Int) := by simp only [List.length_cons]; omega
    by_cases h : b = c
    · subst h
      have e1 : decide ((b :: s).head? = some b) = true := by simp
      rw [e1]
      go_enter Try.func79, Try.ntmps79
      go_wp2_with fail
      go_ret
      exact ⟨rfl, rfl⟩
    · have e1 : decide ((b :: s).head? = some c) = false := by simp [h]
      have e2 : (b == c) = false := by simp [h]
      rw [e1]
      clear e1
      go_enter Try.func79, Try.ntmps79
      go_wp2_with fail
      go_ret
      exact ⟨rfl, rfl⟩
theorem phas_any (s : List UInt8) (c : UInt8) (w : World) :
    Calls Try.prog 66 #[.string ⟨s.toArray⟩, .string ⟨#[c]⟩] w fun e w' => e = .returned (.bool (decide (s.head? = some c))) ∧ w' = w := by
  go_enter Try.func66, Try.ntmps66
  go_wp2_with fail
  refine (phas1_any s c _).mono ?_
  rintro e w1 ⟨rfl, hw⟩
  obtain rfl : w = w1 := hw.symm
  go_wp2_with fail
  go_ret
  exact ⟨rfl, rfl⟩
set_option maxHeartbeats 16000000 in
theorem pdone17_any (s p : List UInt8) (r f : Int) (o : Bool) (vo vh vc : Value) (H' : List Value) (x : Sd) (rec : List UInt8) (hl : rec.length ≤ 1125899906842624) (w : World) (hS : StIn w vo vh vc H' x) :
    Calls Try.prog 47 #[.agg (stC (s, p, r, f, o) vo vh vc), .string ⟨rec.toArray⟩] w fun e w' => DoesRes w (s, p, r, f, o) vo vh vc H' x (doesR x rec) e w' := by
  obtain ⟨x1, x2, x3⟩ := x
  obtain ⟨ao, co, rfl, ko1, ko2, ko3, _⟩ := hS.op.some_at
  have hr := hS.hi
  have ho := hS.ho
  obtain ⟨ah, ch, rfl, kh1, kh2, kh3, _⟩ := hr.some_at
  have hhl := ho.len
  obtain ⟨ac, cc, rfl, kc1, kc2, kc3, _⟩ := hS.ce.some_at
  simp only at ko1 ko2 ko3 kc1 kc2 kc3 hhl
  have S1 := src_rec evV_len (by omega) hS.op hS.so
  have S2 := src_rec hsV_len (by omega) hr hS.sh
  have S3 := src_txt hS.ce hS.sc
  simp only at S1 S3
  have HS := Lib.hid hS
  have HO := Lib.hid ho
  obtain ⟨no, hno⟩ : ∃ n, x1.length = n := ⟨_, rfl⟩
  obtain ⟨nh, hnh⟩ : ∃ n, H'.length = n := ⟨_, rfl⟩
  obtain ⟨nc, hnc⟩ : ∃ n, x3.length = n := ⟨_, rfl⟩
  have hnh2 : x2.length = nh := by omega
  simp only [hno, hnh, hnc] at S1 S2 S3 HS ko1 ko3 kh1 kh3 kc1 kc3 ⊢
  have HN : Hid (x1.length = no ∧ H'.length = nh ∧ x3.length = nc ∧ x2.length = nh) := ⟨hno, hnh, hnc, hnh2⟩
  have X := (SBox.new w 28 #[.string ⟨s.toArray⟩, .string ⟨p.toArray⟩, .int .i64 r, .int .i64 f, .bool o, .slice ao no co, .slice ah nh ch, .slice ac nc cc]).alloc (.cells zS17 28)
  have R := sbox2 w (.cells #[.string ⟨s.toArray⟩, .string ⟨p.toArray⟩, .int .i64 r, .int .i64 f, .bool o, .slice ao no co, .slice ah nh ch, .slice ac nc cc] 28) 28 zS17
  have B0 := bel2 w (.cells #[.string ⟨s.toArray⟩, .string ⟨p.toArray⟩, .int .i64 r, .int .i64 f, .bool o, .slice ao no co, .slice ah nh ch, .slice ac nc cc] 28) (.cells zS17 28)
  clear hS hr ho hno hnh hnc hnh2 hhl
  unfold DoesRes stC
  simp only
  by_cases hs1 : rec = [115]
  · subst hs1
    have e1 : decide (([115] : List UInt8).head? = some 99) = false := by simp
    have e2 : decide (([115] : List UInt8).head? = some 101) = false := by simp
    by_cases he : x1 = []
    · have hd : doesS (x1, x2, x3) [115] = none := by unfold doesS; rw [if_pos rfl, if_pos (.inl he)]
      have n0 : no = 0 := by rw [← HN.out.1, he]; rfl
      subst n0
      rw [doesR_no (hd)]
      simp only
      clear hd
      try clear he
      have kx0 := X.cell 0 _ rfl
      have kx1 := X.cell 1 _ rfl
      have kx2 := X.cell 2 _ rfl
      have kx3 := X.cell 3 _ rfl
      have kx4 := X.cell 4 _ rfl
      have kx5 := X.cell 5 _ rfl
      have kx6 := X.cell 6 _ rfl
      have kx7 := X.cell 7 _ rfl
      have fkx0 := X.frozen 0
      have fkx1 := X.frozen 1
      have fkx2 := X.frozen 2
      have fkx3 := X.frozen 3
      have fkx4 := X.frozen 4
      have fkx5 := X.frozen 5
      have fkx6 := X.frozen 6
      have fkx7 := X.frozen 7
      go_enter Try.func47, Try.ntmps47
      go_wp2_with fail
      refine (phas_any _ _ _).mono ?_
      rintro e w1 ⟨rfl, hw⟩
      obtain rfl : _ = w1 := hw.symm
      simp only [e1]
      go_wp2_with fail
      refine (phas_any _ _ _).mono ?_
      rintro e w1 ⟨rfl, hw⟩
      obtain rfl : _ = w1 := hw.symm
      simp only [e2]
      go_wp2_with fail
      exact bodyPost_ret (results_st2 Try.results47 _ _ (w.heap.size + 1) _ rfl rfl (sbox2 _ _ _ _)) rfl ⟨_, _, _, rfl, bel2 w _ _, _, fun V _ h => h⟩
    · have n0 : no ≠ 0 := fun e => he (List.length_eq_zero_iff.1 (HN.out.1.trans e))
      by_cases h8 : 8 ≤ nh
      · have hd : doesS (x1, x2, x3) [115] = none := by unfold doesS; rw [if_pos rfl, if_pos (.inr (by rw [HN.out.2.2.2]; exact h8))]
        have m0 : (0 : Int) < (no : Int) := by omega
        have m2 : 0 < no := by omega
        have m1 : decide (nh < 8) = false := decide_eq_false (by omega)
        have m3 : (8 : Int) ≤ (nh : Int) := by omega
        rw [doesR_no (hd)]
        simp only
        clear hd
        try clear he
        have kx0 := X.cell 0 _ rfl
        have kx1 := X.cell 1 _ rfl
        have kx2 := X.cell 2 _ rfl
        have kx3 := X.cell 3 _ rfl
        have kx4 := X.cell 4 _ rfl
        have kx5 := X.cell 5 _ rfl
        have kx6 := X.cell 6 _ rfl
        have kx7 := X.cell 7 _ rfl
        have fkx0 := X.frozen 0
        have fkx1 := X.frozen 1
        have fkx2 := X.frozen 2
        have fkx3 := X.frozen 3
        have fkx4 := X.frozen 4
        have fkx5 := X.frozen 5
        have fkx6 := X.frozen 6
        have fkx7 := X.frozen 7
        go_enter Try.func47, Try.ntmps47
        go_wp2_with fail
        refine (phas_any _ _ _).mono ?_
        rintro e w1 ⟨rfl, hw⟩
        obtain rfl : _ = w1 := hw.symm
        simp only [e1]
        go_wp2_with fail
        refine (phas_any _ _ _).mono ?_
        rintro e w1 ⟨rfl, hw⟩
        obtain rfl : _ = w1 := hw.symm
        simp only [e2]
        go_wp2_with fail
        exact bodyPost_ret (results_st2 Try.results47 _ _ (w.heap.size + 1) _ rfl rfl (sbox2 _ _ _ _)) rfl ⟨_, _, _, rfl, bel2 w _ _, _, fun V _ h => h⟩
      · skip
        have hd : doesS (x1, x2, x3) [115] = some ([], x2 ++ [x1], x3) := by unfold doesS; rw [if_pos rfl, if_neg (by rw [HN.out.2.2.2]; exact fun h => h.elim he h8)]
        have m0 : (0 : Int) < (no : Int) := by omega
        have m1 : (nh : Int) < 8 := by omega
        have m2 : 0 < no := by omega
        have m3 : nh < 8 := by omega
        rw [doesR_yes hd]
        simp only
        have kx0 := X.cell 0 _ rfl
        have kx1 := X.cell 1 _ rfl
        have kx2 := X.cell 2 _ rfl
        have kx3 := X.cell 3 _ rfl
        have kx4 := X.cell 4 _ rfl
        have kx5 := X.cell 5 _ rfl
        have kx6 := X.cell 6 _ rfl
        have kx7 := X.cell 7 _ rfl
        have fkx0 := X.frozen 0
        have fkx1 := X.frozen 1
        have fkx2 := X.frozen 2
        have fkx3 := X.frozen 3
        have fkx4 := X.frozen 4
        have fkx5 := X.frozen 5
        have fkx6 := X.frozen 6
        have fkx7 := X.frozen 7
        go_enter Try.func47, Try.ntmps47
        go_wp2_with fail
        refine (pbehH_any ah nh ch (recV hsV H') ao no co kh1 (by omega) (by omega) _ (S2.below B0)).mono ?_
        rintro e wb ⟨v1, rfl, bb, ow⟩
        clear kx0 fkx0 kx1 fkx1 kx2 fkx2 kx3 fkx3 kx4 fkx4 kx5 fkx5 kx6 fkx6 kx7 fkx7
        replace X := X.below bb
        replace R := R.below bb
        replace B0 := B0.trans (bb.mono B0.size)
        have ow := owns_low ow (B' := w.heap.size + 2) (by simp)
        obtain ⟨g1, c1, rfl, _⟩ := own_slice9 ow
        clear bb
        have kx0 := X.cell 0 _ rfl
        have kx1 := X.cell 1 _ rfl
        have kx2 := X.cell 2 _ rfl
        have kx3 := X.cell 3 _ rfl
        have kx4 := X.cell 4 _ rfl
        have kx5 := X.cell 5 _ rfl
        have kx6 := X.cell 6 _ rfl
        have kx7 := X.cell 7 _ rfl
        have fkx0 := X.frozen 0
        have fkx1 := X.frozen 1
        have fkx2 := X.frozen 2
        have fkx3 := X.frozen 3
        have fkx4 := X.frozen 4
        have fkx5 := X.frozen 5
        have fkx6 := X.frozen 6
        have fkx7 := X.frozen 7
        have kz0 := R.cell 0 _ rfl
        have kz1 := R.cell 1 _ rfl
        have kz2 := R.cell 2 _ rfl
        have kz3 := R.cell 3 _ rfl
        have kz4 := R.cell 4 _ rfl
        have kz5 := R.cell 5 _ rfl
        have kz6 := R.cell 6 _ rfl
        have kz7 := R.cell 7 _ rfl
        have fkz0 := R.frozen 0
        have fkz1 := R.frozen 1
        have fkz2 := R.frozen 2
        have fkz3 := R.frozen 3
        have fkz4 := R.frozen 4
        have fkz5 := R.frozen 5
        have fkz6 := R.frozen 6
        have fkz7 := R.frozen 7
        go_wp2_with fail
        have BZ := bel_put8 (B := w.heap.size + 1) ((B0.setCell (p := ⟨w.heap.size, 6, none⟩) (Nat.le_refl _) (.slice g1 (nh + 1) c1)).setCell (p := ⟨w.heap.size, 5, none⟩) (Nat.le_refl _) (.slice none 0 0)) (by omega)
        refine bodyPost_ret (results_st2 Try.results47 _ _ (w.heap.size + 1) _ rfl rfl (((R.other w.heap.size 6 _ (by omega)).other w.heap.size 5 _ (by omega)).put8 _ _ _ _ _ _ _ _)) rfl ⟨_, _, _, rfl, BZ _ _ _ _ _ _ _ _, H' ++ [.slice ao no co], fun V hV hSV => ?_⟩
        have ON := own_put8 (own_setlo (own_setlo ow (k := w.heap.size) 6 (by omega) (.slice g1 (nh + 1) c1)) (k := w.heap.size) 5 (by omega) (.slice none 0 0)) (k := w.heap.size + 1) (by omega)
        refine ⟨IsRec.nil _ _ _, IsRec.own (L := H' ++ [.slice ao no co]) hsV_len (by omega) (e := 24) (B := w.heap.size + 2) (n := nh + 1) ?_ (by omega), hSV.ho.snoc hSV.op hSV.so, hSV.ce, .inl rfl, ?_, hSV.sc⟩
        · rw [recV_append]; exact owns_agr (ON _ _ _ _ _ _ _ _) (by omega) (by decide) hV
        · exact shp_own (ON (.bool true) (.bool true) (.bool true) (.bool true) (.bool true) (.bool true) (.bool true) (.bool true))
  · have m4 : (rec == [115]) = false := beq_eq_false_iff_ne.2 hs1
    match rec, hl, hs1, m4 with
    | [], _, _, m4 =>
      have hd : doesS (x1, x2, x3) [] = none := rfl
      have e1 : decide (([] : List UInt8).head? = some 99) = false := by simp
      have e2 : decide (([] : List UInt8).head? = some 101) = false := by simp
      rw [doesR_no (hd)]
      simp only
      clear hd
      try clear he
      have kx0 := X.cell 0 _ rfl
      have kx1 := X.cell 1 _ rfl
      have kx2 := X.cell 2 _ rfl
      have kx3 := X.cell 3 _ rfl
      have kx4 := X.cell 4 _ rfl
      have kx5 := X.cell 5 _ rfl
      have kx6 := X.cell 6 _ rfl
      have kx7 := X.cell 7 _ rfl
      have fkx0 := X.frozen 0
      have fkx1 := X.frozen 1
      have fkx2 := X.frozen 2
      have fkx3 := X.frozen 3
      have fkx4 := X.frozen 4
      have fkx5 := X.frozen 5
      have fkx6 := X.frozen 6
      have fkx7 := X.frozen 7
      go_enter Try.func47, Try.ntmps47
      go_wp2_with fail
      refine (phas_any _ _ _).mono ?_
      rintro e w1 ⟨rfl, hw⟩
      obtain rfl : _ = w1 := hw.symm
      simp only [e1]
      go_wp2_with fail
      refine (phas_any _ _ _).mono ?_
      rintro e w1 ⟨rfl, hw⟩
      obtain rfl : _ = w1 := hw.symm
      simp only [e2]
      go_wp2_with fail
      exact bodyPost_ret (results_st2 Try.results47 _ _ (w.heap.size + 1) _ rfl rfl (sbox2 _ _ _ _)) rfl ⟨_, _, _, rfl, bel2 w _ _, _, fun V _ h => h⟩
    | c :: b, hl, hs1, m4 =>
      have hbl : b.length ≤ 1125899906842624 := by simp only [List.length_cons] at hl; omega
      by_cases c9 : c = 99
      · subst c9
        have e1 : decide (((99 : UInt8) :: b).head? = some 99) = true := by simp
        have e2 : decide (((99 : UInt8) :: b).head? = some 101) = false := by simp
        by_cases hc : nc < 16
        · skip
          have hd : doesS (x1, x2, x3) (99 :: b) = some (x1, x2, x3 ++ [b]) := by
            unfold doesS
            rw [if_neg (by simp)]
            simp only
            rw [if_pos ⟨trivial, by rw [HN.out.2.2.1]; exact hc⟩]
          have m1 : (nc : Int) < 16 := by omega
          have m4 : (((99 : UInt8) :: b) == [115]) = false := by simp
          have e1 : decide (((99 : UInt8) :: b).head? = some 99) = true := by simp
          have hb1 : ¬ ((b.length : Int) + 1 < 1) := by omega
          rw [doesR_yes hd]
          simp only
          have kx0 := X.cell 0 _ rfl
          have kx1 := X.cell 1 _ rfl
          have kx2 := X.cell 2 _ rfl
          have kx3 := X.cell 3 _ rfl
          have kx4 := X.cell 4 _ rfl
          have kx5 := X.cell 5 _ rfl
          have kx6 := X.cell 6 _ rfl
          have kx7 := X.cell 7 _ rfl
          have fkx0 := X.frozen 0
          have fkx1 := X.frozen 1
          have fkx2 := X.frozen 2
          have fkx3 := X.frozen 3
          have fkx4 := X.frozen 4
          have fkx5 := X.frozen 5
          have fkx6 := X.frozen 6
          have fkx7 := X.frozen 7
          go_enter Try.func47, Try.ntmps47
          go_wp2_with fail
          refine (phas_any _ _ _).mono ?_
          rintro e w1 ⟨rfl, hw⟩
          obtain rfl : _ = w1 := hw.symm
          simp only [e1]
          go_wp2_with fail
          clear kx0 fkx0 kx1 fkx1 kx2 fkx2 kx3 fkx3 kx4 fkx4 kx5 fkx5 kx6 fkx6 kx7 fkx7
          refine wp_region_any (by kernel_rfl) ?_
          change wpAny _ _ _ _ _ _ _ (World.drew _)
          generalize hwd : World.drew _ = wd
          have Xd := X.drew
          have Rd := R.drew
          have Bd := B0.drew
          rw [hwd] at Xd Rd Bd
          have HSRC : Hid (Src17 wd 1 _ nc (strV x3)) := S3.below Bd
          have DS : w.heap.size + 1 < wd.heap.size := Rd.lt
          clear hwd X R B0
          refine any_of_C (C := (fun V => SBox V w.heap.size 28 #[.string ⟨s.toArray⟩, .string ⟨p.toArray⟩, .int .i64 r, .int .i64 f, .bool o, .slice ao no co, .slice ah nh ch, .slice ac nc cc])) 6 _ _ _ _ ?_
          refine takeD 0 (.pointer (some ⟨w.heap.size, 7, none⟩)) rfl (by kernel_rfl) (fun _ _ _ h => h) (fun V hV => by have hV0 := hV; have ky0 := hV0.cell 0 _ rfl; have ky1 := hV0.cell 1 _ rfl; have ky2 := hV0.cell 2 _ rfl; have ky3 := hV0.cell 3 _ rfl; have ky4 := hV0.cell 4 _ rfl; have ky5 := hV0.cell 5 _ rfl; have ky6 := hV0.cell 6 _ rfl; have ky7 := hV0.cell 7 _ rfl; go_simp) ?_
          refine takeD 1 (.slice ac nc cc) rfl (by kernel_rfl) (fun _ _ _ h => h) (fun V hV => by have hV0 := hV; have ky0 := hV0.cell 0 _ rfl; have ky1 := hV0.cell 1 _ rfl; have ky2 := hV0.cell 2 _ rfl; have ky3 := hV0.cell 3 _ rfl; have ky4 := hV0.cell 4 _ rfl; have ky5 := hV0.cell 5 _ rfl; have ky6 := hV0.cell 6 _ rfl; have ky7 := hV0.cell 7 _ rfl; go_simp) ?_
          refine takeD 2 (.string ⟨(99 :: b : List UInt8).toArray⟩) rfl (by kernel_rfl) (fun _ _ _ h => h) (fun V hV => by have hV0 := hV; have ky0 := hV0.cell 0 _ rfl; have ky1 := hV0.cell 1 _ rfl; have ky2 := hV0.cell 2 _ rfl; have ky3 := hV0.cell 3 _ rfl; have ky4 := hV0.cell 4 _ rfl; have ky5 := hV0.cell 5 _ rfl; have ky6 := hV0.cell 6 _ rfl; have ky7 := hV0.cell 7 _ rfl; go_simp) ?_
          refine takeD 3 (.string ⟨b.toArray⟩) rfl (by kernel_rfl) (fun _ _ _ h => h) (fun V hV => by have hV0 := hV; have ky0 := hV0.cell 0 _ rfl; have ky1 := hV0.cell 1 _ rfl; have ky2 := hV0.cell 2 _ rfl; have ky3 := hV0.cell 3 _ rfl; have ky4 := hV0.cell 4 _ rfl; have ky5 := hV0.cell 5 _ rfl; have ky6 := hV0.cell 6 _ rfl; have ky7 := hV0.cell 7 _ rfl; go_simp) ?_
          refine consC (i := 4) (by kernel_rfl) (by kernel_rfl) Xd rfl (fun K hK => ?_)
          go_wp2_with fail
          refine (pbehC_any ac nc cc (strV x3) b kc1 (by omega) (by omega) _ (HSRC.out)).mono ?_
          rintro e wb ⟨v1, rfl, bb, ow⟩
          obtain ⟨g1, c1, rfl, _⟩ := own_slice9 ow
          have X := Xd.below bb
          have R := Rd.below bb
          have B0 := Bd.trans (bb.mono Bd.size)
          go_wp2_with fail
          refine consC (i := 5) (by kernel_rfl) (by kernel_rfl) X rfl (fun K hK => ?_)
          go_wp2_with fail
          refine lastC (by kernel_rfl) (by kernel_rfl) X (of_decide_eq_true (by kernel_rfl)) ?_
          refine any_seqI [6] [_] _ _ _ rfl (by kernel_rfl) ?_
          clear bb Xd Rd Bd
          have kx0 := X.cell 0 _ rfl
          have kx1 := X.cell 1 _ rfl
          have kx2 := X.cell 2 _ rfl
          have kx3 := X.cell 3 _ rfl
          have kx4 := X.cell 4 _ rfl
          have kx5 := X.cell 5 _ rfl
          have kx6 := X.cell 6 _ rfl
          have kx7 := X.cell 7 _ rfl
          have fkx0 := X.frozen 0
          have fkx1 := X.frozen 1
          have fkx2 := X.frozen 2
          have fkx3 := X.frozen 3
          have fkx4 := X.frozen 4
          have fkx5 := X.frozen 5
          have fkx6 := X.frozen 6
          have fkx7 := X.frozen 7
          have kz0 := R.cell 0 _ rfl
          have kz1 := R.cell 1 _ rfl
          have kz2 := R.cell 2 _ rfl
          have kz3 := R.cell 3 _ rfl
          have kz4 := R.cell 4 _ rfl
          have kz5 := R.cell 5 _ rfl
          have kz6 := R.cell 6 _ rfl
          have kz7 := R.cell 7 _ rfl
          have fkz0 := R.frozen 0
          have fkz1 := R.frozen 1
          have fkz2 := R.frozen 2
          have fkz3 := R.frozen 3
          have fkz4 := R.frozen 4
          have fkz5 := R.frozen 5
          have fkz6 := R.frozen 6
          have fkz7 := R.frozen 7
          go_wp2_with fail
          have BZ := bel_put8 (B := w.heap.size + 1) (B0.setCell (p := ⟨w.heap.size, 7, none⟩) (Nat.le_refl _) (.slice g1 (nc + 1) c1)) (by omega)
          refine bodyPost_ret (results_st2 Try.results47 _ _ (w.heap.size + 1) _ rfl rfl ((R.other w.heap.size 7 _ (by omega)).put8 _ _ _ _ _ _ _ _)) rfl ⟨_, _, _, rfl, BZ _ _ _ _ _ _ _ _, H', fun V hV hSV => ?_⟩
          have ON := own_put8 (own_setlo ow (k := w.heap.size) 7 (by omega) (.slice g1 (nc + 1) c1)) (k := w.heap.size + 1) (by omega)
          refine ⟨hSV.op, hSV.hi, hSV.ho, IsTxt.own (B := wd.heap.size) (n := nc + 1) (l := x3 ++ [b]) ?_ (by omega) ?_, hSV.so, hSV.sh, ?_⟩
          · rw [show strV (x3 ++ [b]) = strV x3 ++ [.string ⟨b.toArray⟩] by simp [strV]]; exact owns_agr (ON _ _ _ _ _ _ _ _) (by omega) (by decide) hV
          · intro t ht
            rcases List.mem_append.1 ht with ht | ht
            · exact hSV.ce.bound t ht
            · rw [List.mem_singleton.1 ht]; exact hbl
          · exact shp_own (ON (.bool true) (.bool true) (.bool true) (.bool true) (.bool true) (.bool true) (.bool true) (.bool true))
        · have hd : doesS (x1, x2, x3) (99 :: b) = none := by
            unfold doesS
            rw [if_neg hs1]
            simp only
            rw [if_neg (by rw [HN.out.2.2.1]; exact fun h => hc h.2), if_neg (by simp)]
          have m1 : decide (nc < 16) = false := decide_eq_false hc
          have m3 : (16 : Int) ≤ (nc : Int) := by omega
          rw [doesR_no (hd)]
          simp only
          clear hd
          try clear he
          have kx0 := X.cell 0 _ rfl
          have kx1 := X.cell 1 _ rfl
          have kx2 := X.cell 2 _ rfl
          have kx3 := X.cell 3 _ rfl
          have kx4 := X.cell 4 _ rfl
          have kx5 := X.cell 5 _ rfl
          have kx6 := X.cell 6 _ rfl
          have kx7 := X.cell 7 _ rfl
          have fkx0 := X.frozen 0
          have fkx1 := X.frozen 1
          have fkx2 := X.frozen 2
          have fkx3 := X.frozen 3
          have fkx4 := X.frozen 4
          have fkx5 := X.frozen 5
          have fkx6 := X.frozen 6
          have fkx7 := X.frozen 7
          go_enter Try.func47, Try.ntmps47
          go_wp2_with fail
          refine (phas_any _ _ _).mono ?_
          rintro e w1 ⟨rfl, hw⟩
          obtain rfl : _ = w1 := hw.symm
          simp only [e1]
          go_wp2_with fail
          refine (phas_any _ _ _).mono ?_
          rintro e w1 ⟨rfl, hw⟩
          obtain rfl : _ = w1 := hw.symm
          simp only [e2]
          go_wp2_with fail
          exact bodyPost_ret (results_st2 Try.results47 _ _ (w.heap.size + 1) _ rfl rfl (sbox2 _ _ _ _)) rfl ⟨_, _, _, rfl, bel2 w _ _, _, fun V _ h => h⟩
      · have e1 : decide ((c :: b).head? = some 99) = false := by simp [c9]
        by_cases c1 : c = 101
        · subst c1
          have e2 : decide (((101 : UInt8) :: b).head? = some 101) = true := by simp
          by_cases hc : no < 64
          · cases hT : takeE b with
            | none =>
              have hd : doesS (x1, x2, x3) (101 :: b) = none := by
                unfold doesS
                rw [if_neg hs1]
                simp only
                rw [if_neg (by simp), if_pos ⟨trivial, by rw [HN.out.1]; exact hc⟩, hT]
                rfl
              have hE := takeER_bad hT
              have m1 : (no : Int) < 64 := by omega
              have hb1 : ¬ ((b.length : Int) + 1 < 1) := by omega
              have hct : (101 :: b).drop 1 = b := rfl
              rw [doesR_no hd]
              simp only
              clear hd hT
              have kx0 := X.cell 0 _ rfl
              have kx1 := X.cell 1 _ rfl
              have kx2 := X.cell 2 _ rfl
              have kx3 := X.cell 3 _ rfl
              have kx4 := X.cell 4 _ rfl
              have kx5 := X.cell 5 _ rfl
              have kx6 := X.cell 6 _ rfl
              have kx7 := X.cell 7 _ rfl
              have fkx0 := X.frozen 0
              have fkx1 := X.frozen 1
              have fkx2 := X.frozen 2
              have fkx3 := X.frozen 3
              have fkx4 := X.frozen 4
              have fkx5 := X.frozen 5
              have fkx6 := X.frozen 6
              have fkx7 := X.frozen 7
              go_enter Try.func47, Try.ntmps47
              go_wp2_with fail
              refine (phas_any _ _ _).mono ?_
              rintro e w1 ⟨rfl, hw⟩
              obtain rfl : _ = w1 := hw.symm
              simp only [e1]
              go_wp2_with fail
              refine (phas_any _ _ _).mono ?_
              rintro e w1 ⟨rfl, hw⟩
              obtain rfl : _ = w1 := hw.symm
              simp only [e2]
              go_wp2_with fail
              refine (ptake6_any b (by omega) _).mono ?_
              rintro e wb ⟨rfl, bb⟩
              rw [hE]
              clear kx0 fkx0 kx1 fkx1 kx2 fkx2 kx3 fkx3 kx4 fkx4 kx5 fkx5 kx6 fkx6 kx7 fkx7
              have lR := Lib.hid (R.below bb).lt
              replace X := (X.below bb).alloc (.cells #[.int .i64 0, .int .i64 0, .string ⟨#[]⟩, .string ⟨#[]⟩] 30)
              replace R := (R.below bb).alloc (.cells #[.int .i64 0, .int .i64 0, .string ⟨#[]⟩, .string ⟨#[]⟩] 30)
              replace B0 := B0.trans (bb.mono B0.size)
              have lwb := B0.size
              replace B0 := B0.alloc B0.size (.cells #[.int .i64 0, .int .i64 0, .string ⟨#[]⟩, .string ⟨#[]⟩] 30)
              have kx0 := X.cell 0 _ rfl
              have kx1 := X.cell 1 _ rfl
              have kx2 := X.cell 2 _ rfl
              have kx3 := X.cell 3 _ rfl
              have kx4 := X.cell 4 _ rfl
              have kx5 := X.cell 5 _ rfl
              have kx6 := X.cell 6 _ rfl
              have kx7 := X.cell 7 _ rfl
              have fkx0 := X.frozen 0
              have fkx1 := X.frozen 1
              have fkx2 := X.frozen 2
              have fkx3 := X.frozen 3
              have fkx4 := X.frozen 4
              have fkx5 := X.frozen 5
              have fkx6 := X.frozen 6
              have fkx7 := X.frozen 7
              have kz0 := R.cell 0 _ rfl
              have kz1 := R.cell 1 _ rfl
              have kz2 := R.cell 2 _ rfl
              have kz3 := R.cell 3 _ rfl
              have kz4 := R.cell 4 _ rfl
              have kz5 := R.cell 5 _ rfl
              have kz6 := R.cell 6 _ rfl
              have kz7 := R.cell 7 _ rfl
              have fkz0 := R.frozen 0
              have fkz1 := R.frozen 1
              have fkz2 := R.frozen 2
              have fkz3 := R.frozen 3
              have fkz4 := R.frozen 4
              have fkz5 := R.frozen 5
              have fkz6 := R.frozen 6
              have fkz7 := R.frozen 7
              go_wp2_with fail
              have BZ := bel_put8 (B := w.heap.size + 1) B0 (by omega)
              refine bodyPost_ret (results_st2 Try.results47 _ _ (w.heap.size + 1) _ rfl rfl (R.put8 _ _ _ _ _ _ _ _)) rfl ⟨_, _, _, rfl, BZ _ _ _ _ _ _ _ _, _, fun V _ h => h⟩
            | some y =>
              have hd : doesS (x1, x2, x3) (101 :: b) = some (x1 ++ [y], x2, x3) := by
                unfold doesS
                rw [if_neg hs1]
                simp only
                rw [if_neg (by simp), if_pos ⟨trivial, by rw [HN.out.1]; exact hc⟩, hT]
                rfl
              have hE := takeER_ok hT
              have m1 : (no : Int) < 64 := by omega
              have hb1 : ¬ ((b.length : Int) + 1 < 1) := by omega
              obtain ⟨y0, y1, y2, y3⟩ := y
              rw [doesR_yes hd]
              simp only
              clear hd hT
              have kx0 := X.cell 0 _ rfl
              have kx1 := X.cell 1 _ rfl
              have kx2 := X.cell 2 _ rfl
              have kx3 := X.cell 3 _ rfl
              have kx4 := X.cell 4 _ rfl
              have kx5 := X.cell 5 _ rfl
              have kx6 := X.cell 6 _ rfl
              have kx7 := X.cell 7 _ rfl
              have fkx0 := X.frozen 0
              have fkx1 := X.frozen 1
              have fkx2 := X.frozen 2
              have fkx3 := X.frozen 3
              have fkx4 := X.frozen 4
              have fkx5 := X.frozen 5
              have fkx6 := X.frozen 6
              have fkx7 := X.frozen 7
              go_enter Try.func47, Try.ntmps47
              go_wp2_with fail
              refine (phas_any _ _ _).mono ?_
              rintro e w1 ⟨rfl, hw⟩
              obtain rfl : _ = w1 := hw.symm
              simp only [e1]
              go_wp2_with fail
              refine (phas_any _ _ _).mono ?_
              rintro e w1 ⟨rfl, hw⟩
              obtain rfl : _ = w1 := hw.symm
              simp only [e2]
              go_wp2_with fail
              refine (ptake6_any b (by omega) _).mono ?_
              rintro e wb ⟨rfl, bb⟩
              rw [hE]
              clear kx0 fkx0 kx1 fkx1 kx2 fkx2 kx3 fkx3 kx4 fkx4 kx5 fkx5 kx6 fkx6 kx7 fkx7
              have lR := Lib.hid (R.below bb).lt
              replace X := (X.below bb).alloc (.cells #[.int .i64 y0, .int .i64 y1, .string ⟨y2.toArray⟩, .string ⟨y3.toArray⟩] 30)
              replace R := (R.below bb).alloc (.cells #[.int .i64 y0, .int .i64 y1, .string ⟨y2.toArray⟩, .string ⟨y3.toArray⟩] 30)
              replace B0 := B0.trans (bb.mono B0.size)
              have lwb := B0.size
              replace B0 := B0.alloc B0.size (.cells #[.int .i64 y0, .int .i64 y1, .string ⟨y2.toArray⟩, .string ⟨y3.toArray⟩] 30)
              have kx0 := X.cell 0 _ rfl
              have kx1 := X.cell 1 _ rfl
              have kx2 := X.cell 2 _ rfl
              have kx3 := X.cell 3 _ rfl
              have kx4 := X.cell 4 _ rfl
              have kx5 := X.cell 5 _ rfl
              have kx6 := X.cell 6 _ rfl
              have kx7 := X.cell 7 _ rfl
              have fkx0 := X.frozen 0
              have fkx1 := X.frozen 1
              have fkx2 := X.frozen 2
              have fkx3 := X.frozen 3
              have fkx4 := X.frozen 4
              have fkx5 := X.frozen 5
              have fkx6 := X.frozen 6
              have fkx7 := X.frozen 7
              have kz0 := R.cell 0 _ rfl
              have kz1 := R.cell 1 _ rfl
              have kz2 := R.cell 2 _ rfl
              have kz3 := R.cell 3 _ rfl
              have kz4 := R.cell 4 _ rfl
              have kz5 := R.cell 5 _ rfl
              have kz6 := R.cell 6 _ rfl
              have kz7 := R.cell 7 _ rfl
              have fkz0 := R.frozen 0
              have fkz1 := R.frozen 1
              have fkz2 := R.frozen 2
              have fkz3 := R.frozen 3
              have fkz4 := R.frozen 4
              have fkz5 := R.frozen 5
              have fkz6 := R.frozen 6
              have fkz7 := R.frozen 7
              have Y := SBox.new wb 30 #[.int .i64 y0, .int .i64 y1, .string ⟨y2.toArray⟩, .string ⟨y3.toArray⟩]
              have ye0 := Y.cell 0 _ rfl
              have ye1 := Y.cell 1 _ rfl
              have ye2 := Y.cell 2 _ rfl
              have ye3 := Y.cell 3 _ rfl
              go_wp2_with fail
              refine (pbehE_any ao no co (recV evV x1) y0 y1 y2 y3 ko1 (by omega) (by omega) _ (S1.below B0)).mono ?_
              rintro e wc ⟨v1, rfl, bb, ow⟩
              clear ye0 ye1 ye2 ye3 Y kx0 fkx0 kx1 fkx1 kx2 fkx2 kx3 fkx3 kx4 fkx4 kx5 fkx5 kx6 fkx6 kx7 fkx7 kz0 fkz0 kz1 fkz1 kz2 fkz2 kz3 fkz3 kz4 fkz4 kz5 fkz5 kz6 fkz6 kz7 fkz7
              replace X := X.below bb
              replace R := R.below bb
              replace B0 := B0.trans (bb.mono B0.size)
              replace ow := owns_low ow (B' := w.heap.size + 2) (by have := lR.out; simp only [World.size_alloc]; omega)
              obtain ⟨g1, c1, rfl, _⟩ := own_slice9 ow
              clear bb
              have kx0 := X.cell 0 _ rfl
              have kx1 := X.cell 1 _ rfl
              have kx2 := X.cell 2 _ rfl
              have kx3 := X.cell 3 _ rfl
              have kx4 := X.cell 4 _ rfl
              have kx5 := X.cell 5 _ rfl
              have kx6 := X.cell 6 _ rfl
              have kx7 := X.cell 7 _ rfl
              have fkx0 := X.frozen 0
              have fkx1 := X.frozen 1
              have fkx2 := X.frozen 2
              have fkx3 := X.frozen 3
              have fkx4 := X.frozen 4
              have fkx5 := X.frozen 5
              have fkx6 := X.frozen 6
              have fkx7 := X.frozen 7
              have kz0 := R.cell 0 _ rfl
              have kz1 := R.cell 1 _ rfl
              have kz2 := R.cell 2 _ rfl
              have kz3 := R.cell 3 _ rfl
              have kz4 := R.cell 4 _ rfl
              have kz5 := R.cell 5 _ rfl
              have kz6 := R.cell 6 _ rfl
              have kz7 := R.cell 7 _ rfl
              have fkz0 := R.frozen 0
              have fkz1 := R.frozen 1
              have fkz2 := R.frozen 2
              have fkz3 := R.frozen 3
              have fkz4 := R.frozen 4
              have fkz5 := R.frozen 5
              have fkz6 := R.frozen 6
              have fkz7 := R.frozen 7
              go_wp2_with fail
              have BZ := bel_put8 (B := w.heap.size + 1) (B0.setCell (p := ⟨w.heap.size, 5, none⟩) (Nat.le_refl _) (.slice g1 (no + 1) c1)) (by omega)
              refine bodyPost_ret (results_st2 Try.results47 _ _ (w.heap.size + 1) _ rfl rfl ((R.other w.heap.size 5 _ (by omega)).put8 _ _ _ _ _ _ _ _)) rfl ⟨_, _, _, rfl, BZ _ _ _ _ _ _ _ _, H', fun V hV hSV => ?_⟩
              have ON := own_put8 (own_setlo ow (k := w.heap.size) 5 (by omega) (.slice g1 (no + 1) c1)) (k := w.heap.size + 1) (by omega)
              refine ⟨IsRec.own evV_len (by omega) (e := 30) (B := w.heap.size + 2) (n := no + 1) ?_ (by omega), hSV.hi, hSV.ho, hSV.ce, ?_, hSV.sh, hSV.sc⟩
              · rw [recV_append]; exact owns_agr (ON _ _ _ _ _ _ _ _) (by omega) (by decide) hV
              · exact shp_own (ON (.bool true) (.bool true) (.bool true) (.bool true) (.bool true) (.bool true) (.bool true) (.bool true))
          · have hd : doesS (x1, x2, x3) (101 :: b) = none := by
              unfold doesS
              rw [if_neg hs1]
              simp only
              rw [if_neg (by simp), if_neg (by rw [HN.out.1]; exact fun h => hc h.2)]
            have m1 : decide (no < 64) = false := decide_eq_false hc
            have m3 : (64 : Int) ≤ (no : Int) := by omega
            rw [doesR_no (hd)]
            simp only
            clear hd
            try clear he
            have kx0 := X.cell 0 _ rfl
            have kx1 := X.cell 1 _ rfl
            have kx2 := X.cell 2 _ rfl
            have kx3 := X.cell 3 _ rfl
            have kx4 := X.cell 4 _ rfl
            have kx5 := X.cell 5 _ rfl
            have kx6 := X.cell 6 _ rfl
            have kx7 := X.cell 7 _ rfl
            have fkx0 := X.frozen 0
            have fkx1 := X.frozen 1
            have fkx2 := X.frozen 2
            have fkx3 := X.frozen 3
            have fkx4 := X.frozen 4
            have fkx5 := X.frozen 5
            have fkx6 := X.frozen 6
            have fkx7 := X.frozen 7
            go_enter Try.func47, Try.ntmps47
            go_wp2_with fail
            refine (phas_any _ _ _).mono ?_
            rintro e w1 ⟨rfl, hw⟩
            obtain rfl : _ = w1 := hw.symm
            simp only [e1]
            go_wp2_with fail
            refine (phas_any _ _ _).mono ?_
            rintro e w1 ⟨rfl, hw⟩
            obtain rfl : _ = w1 := hw.symm
            simp only [e2]
            go_wp2_with fail
            exact bodyPost_ret (results_st2 Try.results47 _ _ (w.heap.size + 1) _ rfl rfl (sbox2 _ _ _ _)) rfl ⟨_, _, _, rfl, bel2 w _ _, _, fun V _ h => h⟩
        · have e2 : decide ((c :: b).head? = some 101) = false := by simp [c1]
          have hd : doesS (x1, x2, x3) (c :: b) = none := by
            unfold doesS
            rw [if_neg hs1]
            simp only
            rw [if_neg (fun h => c9 h.1), if_neg (fun h => c1 h.1)]
          rw [doesR_no (hd)]
          simp only
          clear hd
          try clear he
          have kx0 := X.cell 0 _ rfl
          have kx1 := X.cell 1 _ rfl
          have kx2 := X.cell 2 _ rfl
          have kx3 := X.cell 3 _ rfl
          have kx4 := X.cell 4 _ rfl
          have kx5 := X.cell 5 _ rfl
          have kx6 := X.cell 6 _ rfl
          have kx7 := X.cell 7 _ rfl
          have fkx0 := X.frozen 0
          have fkx1 := X.frozen 1
          have fkx2 := X.frozen 2
          have fkx3 := X.frozen 3
          have fkx4 := X.frozen 4
          have fkx5 := X.frozen 5
          have fkx6 := X.frozen 6
          have fkx7 := X.frozen 7
          go_enter Try.func47, Try.ntmps47
          go_wp2_with fail
          refine (phas_any _ _ _).mono ?_
          rintro e w1 ⟨rfl, hw⟩
          obtain rfl : _ = w1 := hw.symm
          simp only [e1]
          go_wp2_with fail
          refine (phas_any _ _ _).mono ?_
          rintro e w1 ⟨rfl, hw⟩
          obtain rfl : _ = w1 := hw.symm
          simp only [e2]
          go_wp2_with fail
          exact bodyPost_ret (results_st2 Try.results47 _ _ (w.heap.size + 1) _ rfl rfl (sbox2 _ _ _ _)) rfl ⟨_, _, _, rfl, bel2 w _ _, _, fun V _ h => h⟩
end Go.Proofs.Ytngllioidfffdaa
