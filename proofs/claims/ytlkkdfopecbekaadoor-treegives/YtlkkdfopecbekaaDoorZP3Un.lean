/-
  What tree.firstUnlike answers, by blake.Sum.
-/
import Derived.Test.YtlkkdfopecbekaaDoorGI
import Derived.Test.YtlkkdfopecbekaaDoorZRes3
import Derived.Test.YtlkkdfopecbekaaDoorZTreeZ
import Derived.BigQuiet
import Derived.WalkMore
import Derived.Deep.QuietTactic
namespace Go.Proofs.YtlkkdfopecbekaaDoor
set_option maxRecDepth 100000
open Go.RowKit
set_option linter.unusedVariables false
attribute [local go_sem] ba_size
theorem below_drewM {B : Nat} {a w : World} (h : Below B a w) : ∀ n, Below B a (w.drewN n) := fun n => ⟨h.os, h.tape, h.output, h.size, h.block⟩
abbrev sumG : Value := .func (.func 32) #[] #[]
set_option maxHeartbeats 2000000 in
theorem pun_any (X Y : List (List UInt8)) (vx vy : Value) (w : World) (hG : G w) (hX : IsTxt w vx X) (hY : IsTxt w vy Y) (hxl : X.length ≤ 1000000) (hyl : Y.length ≤ 1000000) :
    Calls Tryd.prog 62 #[sumG, vx, vy] w fun e w' => e = .returned (unV (fuL sumL X Y)) ∧ Below w.heap.size w w' := by
  have hg3 := hG.size
  have HXB : Hid (∀ t ∈ X, t.length ≤ 1125899906842624) := hX.bound
  have HYB : Hid (∀ t ∈ Y, t.length ≤ 1125899906842624) := hY.bound
  have hAx : X.length = 0 ∨ ∃ b off cap, vx = .slice (some ⟨b, off, none⟩) X.length cap ∧ b < w.heap.size ∧ Hid (∀ j (h : j < X.length), w.cell? ⟨b, off + j, none⟩ = some (.string ⟨X[j].toArray⟩)) := by
    by_cases h0 : X.length = 0
    · exact .inl h0
    · obtain ⟨b, off, cap', hv, hlt, _, _, _, HC⟩ := hX.at (by omega)
      exact .inr ⟨b, off, cap', hv, hlt, HC⟩
  have hAy : Y.length = 0 ∨ ∃ b off cap, vy = .slice (some ⟨b, off, none⟩) Y.length cap ∧ b < w.heap.size ∧ Hid (∀ j (h : j < Y.length), w.cell? ⟨b, off + j, none⟩ = some (.string ⟨Y[j].toArray⟩)) := by
    by_cases h0 : Y.length = 0
    · exact .inl h0
    · obtain ⟨b, off, cap', hv, hlt, _, _, _, HC⟩ := hY.at (by omega)
      exact .inr ⟨b, off, cap', hv, hlt, HC⟩
  obtain ⟨ax, capx, rfl, _, _, _⟩ := hX.len
  obtain ⟨ay, capy, rfl, _, _, _⟩ := hY.len
  simp only [Value.slice.injEq] at hAx hAy
  obtain ⟨O, hO⟩ : ∃ O, fuL sumL X Y = O := ⟨_, rfl⟩
  rw [hO]
  have HO : Hid (fuR sumL X.reverse Y.reverse = O) := hO
  clear hO hX hY
  obtain ⟨dx, hdx⟩ : ∃ d, X.length = d := ⟨_, rfl⟩
  obtain ⟨dy, hdy⟩ : ∃ d, Y.length = d := ⟨_, rfl⟩
  have HDX : Hid (X.length = dx) := hdx
  have HDY : Hid (Y.length = dy) := hdy
  rw [hdx] at hxl ⊢
  rw [hdy] at hyl ⊢
  have hAx' : dx = 0 ∨ ∃ b off, ax = some ⟨b, off, none⟩ ∧ b < w.heap.size ∧ Hid (∀ j (h : j < X.length), w.cell? ⟨b, off + j, none⟩ = some (.string ⟨X[j].toArray⟩)) := by
    rcases hAx with h | ⟨b, off, cap, h1, h2, h3⟩
    · exact .inl (by omega)
    · exact .inr ⟨b, off, h1.1, h2, h3⟩
  have hAy' : dy = 0 ∨ ∃ b off, ay = some ⟨b, off, none⟩ ∧ b < w.heap.size ∧ Hid (∀ j (h : j < Y.length), w.cell? ⟨b, off + j, none⟩ = some (.string ⟨Y[j].toArray⟩)) := by
    rcases hAy with h | ⟨b, off, cap, h1, h2, h3⟩
    · exact .inl (by omega)
    · exact .inr ⟨b, off, h1.1, h2, h3⟩
  clear hAx hAy hdx hdy
  go_enter Tryd.func62, Tryd.ntmps62
  go_wp2_with fail
  go_step3
  go_wp2_with fail
  go_step3
  go_wp2_with fail
  go_loopw [9] (fun bk wr => ∃ k : Nat, bk = .int .i64 ((k : Int) + 1) ∧ k ≤ dx ∧ k ≤ dy ∧ Hid (fuR sumL (X.reverse.drop k) (Y.reverse.drop k) = O) ∧ Below w.heap.size w wr) (fun bk _ => (dx + 1 - (intOf bk).toNat))
  case atStart => exact ⟨0, rfl, by omega, by omega, HO, Below.refl _ _⟩
  case round =>
    obtain ⟨k, rfl, hkx, hky, HJ, hbw⟩ := hrel
    by_cases hmin : dx ≤ dy
    · have hle : (dx : Int) ≤ (dy : Int) := by omega
      by_cases hend : k < dx ∧ k < dy
      · obtain ⟨hk1, hk2⟩ := hend
        have j1 : (k : Int) + 1 ≤ (dx : Int) := by omega
        have j2 : (k : Int) + 1 ≤ (dy : Int) := by omega
        rcases hAx' with h0 | ⟨bx, ox, rfl, hbx, CX⟩
        · omega
        rcases hAy' with h0 | ⟨by', oy, rfl, hby, CY⟩
        · omega
        have hm1 : X.length - 1 - k < X.length := by have := HDX.out; omega
        have hm2 : Y.length - 1 - k < Y.length := by have := HDY.out; omega
        have c1 : wr.cell? ⟨bx, ox + (X.length - 1 - k), none⟩ = some (.string ⟨(X[X.length - 1 - k]'hm1).toArray⟩) := (hbw.cell (p := ⟨bx, ox + (X.length - 1 - k), none⟩) hbx).trans (CX.out _ hm1)
        have c2 : wr.cell? ⟨by', oy + (Y.length - 1 - k), none⟩ = some (.string ⟨(Y[Y.length - 1 - k]'hm2).toArray⟩) := (hbw.cell (p := ⟨by', oy + (Y.length - 1 - k), none⟩) hby).trans (CY.out _ hm2)
        have xb := HXB.out _ (List.getElem_mem hm1)
        have yb := HYB.out _ (List.getElem_mem hm2)
        have hJ := HJ.out
        rw [rev_drop X k (by have := HDX.out; omega), rev_drop Y k (by have := HDY.out; omega), fuR] at hJ
        obtain ⟨x, hx⟩ : ∃ x, X[X.length - 1 - k]'hm1 = x := ⟨_, rfl⟩
        obtain ⟨y, hy⟩ : ∃ y, Y[Y.length - 1 - k]'hm2 = y := ⟨_, rfl⟩
        rw [hx] at c1 xb hJ
        rw [hy] at c2 yb hJ
        rw [show X.length - 1 - k = dx - 1 - k by have := HDX.out; omega] at c1
        rw [show Y.length - 1 - k = dy - 1 - k by have := HDY.out; omega] at c2
        have k1 : IntKind.i64.wrap ((dx : Int) - ((k : Int) + 1)) = (dx : Int) - ((k : Int) + 1) := by rw [IntKind.wrap_i64]; omega
        have k2 : IntKind.i64.wrap ((dy : Int) - ((k : Int) + 1)) = (dy : Int) - ((k : Int) + 1) := by rw [IntKind.wrap_i64]; omega
        have k3 : ((dx : Int) - ((k : Int) + 1)).toNat = dx - 1 - k := by omega
        have k4 : ((dy : Int) - ((k : Int) + 1)).toNat = dy - 1 - k := by omega
        have k5 : (0 : Int) ≤ (dx : Int) - ((k : Int) + 1) := by omega
        have k6 : (0 : Int) ≤ (dy : Int) - ((k : Int) + 1) := by omega
        have k7 : (dx : Int) - ((k : Int) + 1) < (dx : Int) := by omega
        have k8 : (dy : Int) - ((k : Int) + 1) < (dy : Int) := by omega
        have k9 : IntKind.i64.wrap ((k : Int) + 1 + 1) = (k : Int) + 1 + 1 := by rw [IntKind.wrap_i64]; omega
        clear hx hy HJ
        by_cases hxy : x = y
        · have heb : (x == y) = true := by rw [hxy]; exact beq_self_eq_true y
          have HJ' : Hid (fuR sumL (X.reverse.drop (k + 1)) (Y.reverse.drop (k + 1)) = O) := by rw [if_pos hxy] at hJ; exact hJ
          clear hJ hxy
          go_wp2_with fail
          go_quiet (fail)
          go_wp2_with fail
          refine ⟨⟨k + 1, by first | rfl | go_num | simp, by omega, by omega, HJ', below_drewM hbw _⟩, ?_⟩
          simp [intOf]
          omega
        · have heb : (x == y) = false := beq_eq_false_iff_ne.2 hxy
          rw [if_neg hxy] at hJ
          have S1 := fun w1 h => psumL_any x (by omega) w1 h
          have S2 := fun w1 h => psumL_any y (by omega) w1 h
          by_cases hs : sumL x = sumL y
          · have HE : Hid (O = some (x, y)) := by rw [unL_some sumL x y hxy hs] at hJ; exact hJ.symm
            obtain ⟨u, hu⟩ : ∃ u, sumL x = u := ⟨_, rfl⟩
            rw [hu] at S1 hs
            rw [← hs] at S2
            clear hJ hxy hs hu
            go_wp2_with fail
            go_quiet (fail)
            go_wp2_with fail
            refine (S1 _ (hG.below (below_drewM hbw _) hg3)).mono ?_
            rintro e w2 ⟨rfl, hb2⟩
            have hbw2 : Below w.heap.size w w2 := (below_drewM hbw nq).trans (hb2.mono hbw.size)
            go_wp2_with fail
            refine (S2 w2 (hG.below hbw2 hg3)).mono ?_
            rintro e w3 ⟨rfl, hb3⟩
            go_wp2_with fail
            (try rw [Exit.noGoto_ret])
            go_ret3
            exact ⟨by rw [HE.out]; rfl, hbw2.trans (hb3.mono hbw2.size)⟩
          · have HE : Hid (O = none) := by rw [unL_ne sumL x y hs] at hJ; exact hJ.symm
            have e2 : (sumL x == sumL y) = false := beq_eq_false_iff_ne.2 hs
            obtain ⟨u, hu⟩ : ∃ u, sumL x = u := ⟨_, rfl⟩
            obtain ⟨v, hv⟩ : ∃ v, sumL y = v := ⟨_, rfl⟩
            rw [hu] at S1 e2
            rw [hv] at S2 e2
            clear hJ hxy hs hu hv
            go_wp2_with fail
            go_quiet (fail)
            go_wp2_with fail
            refine (S1 _ (hG.below (below_drewM hbw _) hg3)).mono ?_
            rintro e w2 ⟨rfl, hb2⟩
            have hbw2 : Below w.heap.size w w2 := (below_drewM hbw nq).trans (hb2.mono hbw.size)
            go_wp2_with fail
            refine (S2 w2 (hG.below hbw2 hg3)).mono ?_
            rintro e w3 ⟨rfl, hb3⟩
            go_wp2_with fail
            (try rw [Exit.noGoto_ret])
            go_ret3
            exact ⟨by rw [HE.out]; rfl, hbw2.trans (hb3.mono hbw2.size)⟩
      · have j1 : ¬ (k : Int) + 1 ≤ (dx : Int) := by omega
        have HE : Hid (O = none) := by
          have hJ := HJ.out
          by_cases hx : k < dx
          · rw [show Y.reverse.drop k = [] from List.drop_eq_nil_of_le (by have := HDY.out; simp; omega)] at hJ
            rw [← hJ]
            cases X.reverse.drop k <;> rfl
          · rw [show X.reverse.drop k = [] from List.drop_eq_nil_of_le (by have := HDX.out; simp; omega)] at hJ
            exact hJ.symm
        go_wp2_with fail
        (try rw [Exit.noGoto_ret])
        go_ret3
        exact ⟨by rw [HE.out]; rfl, hbw⟩
    · have hle : ¬ (dx : Int) ≤ (dy : Int) := by omega
      by_cases hend : k < dx ∧ k < dy
      · obtain ⟨hk1, hk2⟩ := hend
        have j1 : (k : Int) + 1 ≤ (dx : Int) := by omega
        have j2 : (k : Int) + 1 ≤ (dy : Int) := by omega
        rcases hAx' with h0 | ⟨bx, ox, rfl, hbx, CX⟩
        · omega
        rcases hAy' with h0 | ⟨by', oy, rfl, hby, CY⟩
        · omega
        have hm1 : X.length - 1 - k < X.length := by have := HDX.out; omega
        have hm2 : Y.length - 1 - k < Y.length := by have := HDY.out; omega
        have c1 : wr.cell? ⟨bx, ox + (X.length - 1 - k), none⟩ = some (.string ⟨(X[X.length - 1 - k]'hm1).toArray⟩) := (hbw.cell (p := ⟨bx, ox + (X.length - 1 - k), none⟩) hbx).trans (CX.out _ hm1)
        have c2 : wr.cell? ⟨by', oy + (Y.length - 1 - k), none⟩ = some (.string ⟨(Y[Y.length - 1 - k]'hm2).toArray⟩) := (hbw.cell (p := ⟨by', oy + (Y.length - 1 - k), none⟩) hby).trans (CY.out _ hm2)
        have xb := HXB.out _ (List.getElem_mem hm1)
        have yb := HYB.out _ (List.getElem_mem hm2)
        have hJ := HJ.out
        rw [rev_drop X k (by have := HDX.out; omega), rev_drop Y k (by have := HDY.out; omega), fuR] at hJ
        obtain ⟨x, hx⟩ : ∃ x, X[X.length - 1 - k]'hm1 = x := ⟨_, rfl⟩
        obtain ⟨y, hy⟩ : ∃ y, Y[Y.length - 1 - k]'hm2 = y := ⟨_, rfl⟩
        rw [hx] at c1 xb hJ
        rw [hy] at c2 yb hJ
        rw [show X.length - 1 - k = dx - 1 - k by have := HDX.out; omega] at c1
        rw [show Y.length - 1 - k = dy - 1 - k by have := HDY.out; omega] at c2
        have k1 : IntKind.i64.wrap ((dx : Int) - ((k : Int) + 1)) = (dx : Int) - ((k : Int) + 1) := by rw [IntKind.wrap_i64]; omega
        have k2 : IntKind.i64.wrap ((dy : Int) - ((k : Int) + 1)) = (dy : Int) - ((k : Int) + 1) := by rw [IntKind.wrap_i64]; omega
        have k3 : ((dx : Int) - ((k : Int) + 1)).toNat = dx - 1 - k := by omega
        have k4 : ((dy : Int) - ((k : Int) + 1)).toNat = dy - 1 - k := by omega
        have k5 : (0 : Int) ≤ (dx : Int) - ((k : Int) + 1) := by omega
        have k6 : (0 : Int) ≤ (dy : Int) - ((k : Int) + 1) := by omega
        have k7 : (dx : Int) - ((k : Int) + 1) < (dx : Int) := by omega
        have k8 : (dy : Int) - ((k : Int) + 1) < (dy : Int) := by omega
        have k9 : IntKind.i64.wrap ((k : Int) + 1 + 1) = (k : Int) + 1 + 1 := by rw [IntKind.wrap_i64]; omega
        clear hx hy HJ
        by_cases hxy : x = y
        · have heb : (x == y) = true := by rw [hxy]; exact beq_self_eq_true y
          have HJ' : Hid (fuR sumL (X.reverse.drop (k + 1)) (Y.reverse.drop (k + 1)) = O) := by rw [if_pos hxy] at hJ; exact hJ
          clear hJ hxy
          go_wp2_with fail
          go_quiet (fail)
          go_wp2_with fail
          refine ⟨⟨k + 1, by first | rfl | go_num | simp, by omega, by omega, HJ', below_drewM hbw _⟩, ?_⟩
          simp [intOf]
          omega
        · have heb : (x == y) = false := beq_eq_false_iff_ne.2 hxy
          rw [if_neg hxy] at hJ
          have S1 := fun w1 h => psumL_any x (by omega) w1 h
          have S2 := fun w1 h => psumL_any y (by omega) w1 h
          by_cases hs : sumL x = sumL y
          · have HE : Hid (O = some (x, y)) := by rw [unL_some sumL x y hxy hs] at hJ; exact hJ.symm
            obtain ⟨u, hu⟩ : ∃ u, sumL x = u := ⟨_, rfl⟩
            rw [hu] at S1 hs
            rw [← hs] at S2
            clear hJ hxy hs hu
            go_wp2_with fail
            go_quiet (fail)
            go_wp2_with fail
            refine (S1 _ (hG.below (below_drewM hbw _) hg3)).mono ?_
            rintro e w2 ⟨rfl, hb2⟩
            have hbw2 : Below w.heap.size w w2 := (below_drewM hbw nq).trans (hb2.mono hbw.size)
            go_wp2_with fail
            refine (S2 w2 (hG.below hbw2 hg3)).mono ?_
            rintro e w3 ⟨rfl, hb3⟩
            go_wp2_with fail
            (try rw [Exit.noGoto_ret])
            go_ret3
            exact ⟨by rw [HE.out]; rfl, hbw2.trans (hb3.mono hbw2.size)⟩
          · have HE : Hid (O = none) := by rw [unL_ne sumL x y hs] at hJ; exact hJ.symm
            have e2 : (sumL x == sumL y) = false := beq_eq_false_iff_ne.2 hs
            obtain ⟨u, hu⟩ : ∃ u, sumL x = u := ⟨_, rfl⟩
            obtain ⟨v, hv⟩ : ∃ v, sumL y = v := ⟨_, rfl⟩
            rw [hu] at S1 e2
            rw [hv] at S2 e2
            clear hJ hxy hs hu hv
            go_wp2_with fail
            go_quiet (fail)
            go_wp2_with fail
            refine (S1 _ (hG.below (below_drewM hbw _) hg3)).mono ?_
            rintro e w2 ⟨rfl, hb2⟩
            have hbw2 : Below w.heap.size w w2 := (below_drewM hbw nq).trans (hb2.mono hbw.size)
            go_wp2_with fail
            refine (S2 w2 (hG.below hbw2 hg3)).mono ?_
            rintro e w3 ⟨rfl, hb3⟩
            go_wp2_with fail
            (try rw [Exit.noGoto_ret])
            go_ret3
            exact ⟨by rw [HE.out]; rfl, hbw2.trans (hb3.mono hbw2.size)⟩
      · have j1 : ¬ (k : Int) + 1 ≤ (dy : Int) := by omega
        have HE : Hid (O = none) := by
          have hJ := HJ.out
          by_cases hx : k < dx
          · rw [show Y.reverse.drop k = [] from List.drop_eq_nil_of_le (by have := HDY.out; simp; omega)] at hJ
            rw [← hJ]
            cases X.reverse.drop k <;> rfl
          · rw [show X.reverse.drop k = [] from List.drop_eq_nil_of_le (by have := HDX.out; simp; omega)] at hJ
            exact hJ.symm
        go_wp2_with fail
        (try rw [Exit.noGoto_ret])
        go_ret3
        exact ⟨by rw [HE.out]; rfl, hbw⟩
end Go.Proofs.YtlkkdfopecbekaaDoor
