/-
  What cartoucheref04.Differ answers.
-/
import Derived.Test.YtgickejfcmnaiaaDoorZR4Links
import Derived.Test.YtgickejfcmnaiaaDoorZChainO
import Derived.Test.YtgickejfcmnaiaaDoorGH
import Derived.WalkMore
namespace Go.Proofs.YtgickejfcmnaiaaDoor
set_option maxRecDepth 100000
open Go.RowKit
set_option linter.unusedVariables false
attribute [local go_sem] ba_size
set_option maxHeartbeats 4000000 in
theorem rdif_any (A B : List (List UInt8)) (va vb : Value) (w : World) (hA : IsTxt w va A) (hB : IsTxt w vb B) (hla : A.length ≤ 1000000) (hlb : B.length ≤ 1000000) :
    Calls Tryd.prog 23 #[va, vb] w fun e w' => e = .returned (unV (chDifL sumL A B)) ∧ Below w.heap.size w w' := by
  have hL1 := rlinks_any A va w hA hla
  have hL2 := fun w1 (h1 : Below w.heap.size w w1) => rlinks_any B vb w1 (hB.below h1) hlb
  have s1 := links_small sumL sumL_32 A [] (by simp)
  have s2 := links_small sumL sumL_32 B [] (by simp)
  have n1 := linksF_len sumL A []
  have n2 := linksF_len sumL B []
  unfold linksL at hL1
  unfold chDifL
  cases eA : headF sumL [] A with
  | none =>
    rw [eA] at hL1
    rw [if_pos (Or.inl rfl)]
    obtain ⟨R, hR⟩ : ∃ R, linksL sumL B = R := ⟨_, rfl⟩
    rw [hR] at hL2
    clear hR s1 s2 n1 n2 eA hA hB
    go_enter Tryd.func23, Tryd.ntmps23
    go_wp2_with fail
    refine hL1.mono ?_
    rintro e w1 hres1
    obtain ⟨r1, rfl, hb1, hown1⟩ := hres1
    go_wp2_with fail
    refine (hL2 w1 hb1).mono ?_
    rintro e w2 hres2
    obtain ⟨r2, rfl, hb2, hown2⟩ := hres2
    go_wp2_with fail
    go_ret3
    exact ⟨rfl, bel_trans hb1 hb2⟩
  | some ha =>
    rw [eA] at hL1 s1
    unfold linksL at hL2
    cases eB : headF sumL [] B with
    | none =>
      rw [eB] at hL2
      rw [if_pos (Or.inr rfl)]
      clear s1 s2 n1 n2 eA eB hA hB
      go_enter Tryd.func23, Tryd.ntmps23
      go_wp2_with fail
      refine hL1.mono ?_
      rintro e w1 hres1
      obtain ⟨r1, rfl, hb1, hown1⟩ := hres1
      go_wp2_with fail
      refine (hL2 w1 hb1).mono ?_
      rintro e w2 hres2
      obtain ⟨r2, rfl, hb2, hown2⟩ := hres2
      go_wp2_with fail
      go_ret3
      exact ⟨rfl, bel_trans hb1 hb2⟩
    | some hb =>
      rw [eB] at hL2 s2
      rw [if_neg (by simp)]
      obtain ⟨X, hX⟩ : ∃ X, linksF sumL [] A = X := ⟨_, rfl⟩
      obtain ⟨Y, hY⟩ : ∃ Y, linksF sumL [] B = Y := ⟨_, rfl⟩
      rw [hX] at hL1 s1 n1 ⊢
      rw [hY] at hL2 s2 n2 ⊢
      clear hX hY eA eB hA hB
      have S1 : Hid (∀ x ∈ X, ¬ bigB x.1 x.2 ∧ x.1.length ≤ 32) := s1 (by simp)
      have S2 : Hid (∀ x ∈ Y, ¬ bigB x.1 x.2 ∧ x.1.length ≤ 32) := s2 (by simp)
      obtain ⟨O, hO⟩ : ∃ O, fuL sumL (insC X) (insC Y) = O := ⟨_, rfl⟩
      have HO : Hid (fuR sumL ((insC X).reverse.drop 0) ((insC Y).reverse.drop 0) = O) := hO
      rw [hO]
      rw [← n1] at hla
      rw [← n2] at hlb
      clear s1 s2 hO n1 n2
      go_enter Tryd.func23, Tryd.ntmps23
      go_wp2_with fail
      refine hL1.mono ?_
      rintro e w1 hres1
      obtain ⟨r1, rfl, hb1, hown1⟩ := hres1
      go_wp2_with fail
      refine (hL2 w1 hb1).mono ?_
      rintro e w2 hres2
      obtain ⟨r2, rfl, hb2, hown2⟩ := hres2
      have hown1' := owns_below hown1 hb2
      have I1 : IsLnk w2 r1 X := IsLnk.own hown1' (by show X.length ≤ _; omega) (fun t ht => by have := S1.out t ht; unfold bigB at this; omega)
      have I2 : IsLnk w2 r2 Y := IsLnk.own hown2 (by show Y.length ≤ _; omega) (fun t ht => by have := S2.out t ht; unfold bigB at this; omega)
      obtain ⟨ax, cx, rfl, hx1, hx2, hx3, CX⟩ := I1.some_at
      obtain ⟨ay, cy, rfl, hy1, hy2, hy3, CY⟩ := I2.some_at
      have hB2 : Below w.heap.size w w2 := bel_trans hb1 hb2
      clear I1 I2 hown1 hown1' hown2 hb1 hb2 hL1 hL2
      obtain ⟨dx, hdx⟩ : ∃ d, X.length = d := ⟨_, rfl⟩
      obtain ⟨dy, hdy⟩ : ∃ d, Y.length = d := ⟨_, rfl⟩
      have HDX : Hid (X.length = dx) := hdx
      have HDY : Hid (Y.length = dy) := hdy
      rw [hdx] at hla hx1 hx3 ⊢
      rw [hdy] at hlb hy1 hy3 ⊢
      clear hdx hdy
      obtain ⟨fx, hfx⟩ : ∃ f : Int, f = (dx : Int) - 1 := ⟨_, rfl⟩
      obtain ⟨fy, hfy⟩ : ∃ f : Int, f = (dy : Int) - 1 := ⟨_, rfl⟩
      have k1 : IntKind.i64.wrap ((dx : Int) - 1) = fx := by rw [IntKind.wrap_i64]; omega
      have k2 : IntKind.i64.wrap ((dy : Int) - 1) = fy := by rw [IntKind.wrap_i64]; omega
      have HFX : Hid (fx = (dx : Int) - 1) := hfx
      have HFY : Hid (fy = (dy : Int) - 1) := hfy
      clear hfx hfy
      go_wp2_with fail
      go_loopw [11, 12] (fun iv jv wr => ∃ (k : Nat) (i j : Int), Hid (i + 1 + k = dx) ∧ Hid (j + 1 + k = dy) ∧ -1 ≤ i ∧ -1 ≤ j ∧ iv = .int .i64 i ∧ jv = .int .i64 j ∧ Hid (fuR sumL ((insC X).reverse.drop k) ((insC Y).reverse.drop k) = O) ∧ Below w.heap.size w wr ∧ Below w2.heap.size w2 wr) (fun iv _ _ => (intOf iv + 1).toNat)
      case atStart => exact ⟨0, fx, fy, (by have := HFX.out; omega : _ = _), (by have := HFY.out; omega : _ = _), by have := HFX.out; omega, by have := HFY.out; omega, rfl, rfl, HO, hB2, Below.refl _ _⟩
      case round =>
        obtain ⟨k, i, j, HI, HJ0, hi0, hj0, rfl, rfl, HJ, hbw, hb2w⟩ := hrel
        have HEN : i < 0 ∨ j < 0 → O = none := fun hh => by
          have hJ := HJ.out
          have lX : ((insC X).reverse.drop k).length = dx - k := by rw [List.length_drop, List.length_reverse, insC_len, HDX.out]
          have lY : ((insC Y).reverse.drop k).length = dy - k := by rw [List.length_drop, List.length_reverse, insC_len, HDY.out]
          have q1 := HI.out
          have q2 := HJ0.out
          rw [← hJ]
          by_cases h0 : dx - k = 0
          · rw [List.length_eq_zero_iff.1 (lX.trans h0)]; cases (insC Y).reverse.drop k <;> rfl
          · rw [List.length_eq_zero_iff.1 (lY.trans (by omega))]; cases (insC X).reverse.drop k <;> rfl
        by_cases hi : 0 ≤ i
        · by_cases hj : 0 ≤ j
          · clear HEN
            obtain ⟨i1, rfl⟩ : ∃ i1 : Nat, i = (i1 : Int) := ⟨i.toNat, by omega⟩
            obtain ⟨i2, rfl⟩ : ∃ i2 : Nat, j = (i2 : Int) := ⟨j.toNat, by omega⟩
            have q1 : i1 + 1 + k = dx := by have := HI.out; omega
            have q2 : i2 + 1 + k = dy := by have := HJ0.out; omega
            have hm1 : X.length - 1 - k < X.length := by have := HDX.out; omega
            have hm2 : Y.length - 1 - k < Y.length := by have := HDY.out; omega
            obtain ⟨bx, ox, rfl, hbx, ex1, ex2⟩ := CX.out _ hm1
            obtain ⟨by', oy, rfl, hby, ey1, ey2⟩ := CY.out _ hm2
            have c1 := (hb2w.cell (p := ⟨bx, ox + (X.length - 1 - k) * 2, none⟩) hbx).trans ex1
            have c2 := (hb2w.cell (p := ⟨bx, ox + (X.length - 1 - k) * 2 + 1, none⟩) hbx).trans ex2
            have c3 := ey1
            have c4 := ey2
            have p1 := S1.out _ (List.getElem_mem hm1)
            have p2 := S2.out _ (List.getElem_mem hm2)
            have hJ := HJ.out
            rw [insC_rev X k (by have := HDX.out; omega), insC_rev Y k (by have := HDY.out; omega), fuR] at hJ
            obtain ⟨x1, hx1'⟩ : ∃ x, (X[X.length - 1 - k]'hm1).1 = x := ⟨_, rfl⟩
            obtain ⟨x2, hx2'⟩ : ∃ x, (X[X.length - 1 - k]'hm1).2 = x := ⟨_, rfl⟩
            obtain ⟨y1, hy1'⟩ : ∃ x, (Y[Y.length - 1 - k]'hm2).1 = x := ⟨_, rfl⟩
            obtain ⟨y2, hy2'⟩ : ∃ x, (Y[Y.length - 1 - k]'hm2).2 = x := ⟨_, rfl⟩
            rw [hx1'] at c1 p1 hJ
            rw [hx2'] at c2 p1 hJ
            rw [hy1'] at c3 p2 hJ
            rw [hy2'] at c4 p2 hJ
            rw [show X.length - 1 - k = i1 by have := HDX.out; omega] at c1 c2
            rw [show Y.length - 1 - k = i2 by have := HDY.out; omega] at c3 c4
            clear hx1' hx2' hy1' hy2' HJ ex1 ex2 ey1 ey2 hm1 hm2
            have P1 := fun w1 => rinput_ok x1 x2 p1.1 w1
            have P2 := fun w1 => rinput_ok y1 y2 p2.1 w1
            have z1 := (cinL_len x1 x2).2
            have z2 := (cinL_len y1 y2).2
            have z3 : (cinL x1 x2).length ≤ 1000000 := by have := p1.1; unfold bigB at this; omega
            have z4 : (cinL y1 y2).length ≤ 1000000 := by have := p2.1; unfold bigB at this; omega
            clear z1 z2 p1 p2
            obtain ⟨s, hs⟩ : ∃ s, cinL x1 x2 = s := ⟨_, rfl⟩
            obtain ⟨t, ht⟩ : ∃ t, cinL y1 y2 = t := ⟨_, rfl⟩
            rw [hs] at P1 hJ z3
            rw [ht] at P2 hJ z4
            clear hs ht
            have k9 : (i1 : Int) < (dx : Int) := by omega
            have k10 : (i2 : Int) < (dy : Int) := by omega
            obtain ⟨g1, hg1⟩ : ∃ g : Int, g = (i1 : Int) - 1 := ⟨_, rfl⟩
            obtain ⟨g2, hg2⟩ : ∃ g : Int, g = (i2 : Int) - 1 := ⟨_, rfl⟩
            have k11 : IntKind.i64.wrap ((i1 : Int) - 1) = g1 := by rw [IntKind.wrap_i64]; omega
            have k12 : IntKind.i64.wrap ((i2 : Int) - 1) = g2 := by rw [IntKind.wrap_i64]; omega
            have G1 : Hid (g1 = (i1 : Int) - 1) := hg1
            have G2 : Hid (g2 = (i2 : Int) - 1) := hg2
            have HQ1 : Hid (i1 + 1 + k = dx) := q1
            have HQ2 : Hid (i2 + 1 + k = dy) := q2
            clear hg1 hg2 q1 q2
            by_cases hst : s = t
            · subst hst
              have heb : (s == s) = true := beq_self_eq_true s
              rw [if_pos rfl] at hJ
              have HJ' : Hid (fuR sumL ((insC X).reverse.drop (k + 1)) ((insC Y).reverse.drop (k + 1)) = O) := hJ
              clear hJ
              go_wp2_with fail
              refine wp_region_any (by kernel_rfl) ?_
              change wpAny _ _ _ _ _ _ _ (World.drew _)
              refine wpAny_take (i := 0) (v := .slice (some ⟨bx, ox, none⟩) dx cx) rfl (by kernel_rfl) (by kernel_rfl) (by kernel_rfl) (fun _ _ _ h => h) (Or.inl ⟨by rfl, fun w => by go_simp⟩) ?_
              refine wpAny_take (i := 1) (v := .int .i64 i1) rfl (by kernel_rfl) (by kernel_rfl) (by kernel_rfl) (fun _ _ _ h => h) (Or.inl ⟨by rfl, fun w => by go_simp⟩) ?_
              refine wpAny_take (i := 2) (v := .pointer (some ⟨bx, ox + i1 * 2, none⟩)) rfl (by kernel_rfl) (by kernel_rfl) (by kernel_rfl) (fun _ _ _ h => h) (Or.inl ⟨by rfl, fun w => by go_simp⟩) ?_
              refine wpAny_take (i := 3) (v := .pointer (some ⟨bx, ox + i1 * 2, none⟩)) rfl (by kernel_rfl) (by kernel_rfl) (by kernel_rfl) (fun _ _ _ h => h) (Or.inl ⟨by rfl, fun w => by go_simp⟩) ?_
              refine wpAny_take (i := 5) (v := .slice (some ⟨bx, ox, none⟩) dx cx) rfl (by kernel_rfl) (by kernel_rfl) (by kernel_rfl) (fun _ _ _ h => h) (Or.inl ⟨by rfl, fun w => by go_simp⟩) ?_
              refine wpAny_take (i := 6) (v := .int .i64 i1) rfl (by kernel_rfl) (by kernel_rfl) (by kernel_rfl) (fun _ _ _ h => h) (Or.inl ⟨by rfl, fun w => by go_simp⟩) ?_
              refine wpAny_take (i := 7) (v := .pointer (some ⟨bx, ox + i1 * 2, none⟩)) rfl (by kernel_rfl) (by kernel_rfl) (by kernel_rfl) (fun _ _ _ h => h) (Or.inl ⟨by rfl, fun w => by go_simp⟩) ?_
              refine wpAny_take (i := 8) (v := .pointer (some ⟨bx, ox + i1 * 2 + 1, none⟩)) rfl (by kernel_rfl) (by kernel_rfl) (by kernel_rfl) (fun _ _ _ h => h) (Or.inl ⟨by rfl, fun w => by go_simp⟩) ?_
              refine any_of_C (C := fun V => V.cell? ⟨bx, ox + i1 * 2, none⟩ = some (.string ⟨x1.toArray⟩) ∧ V.cell? ⟨bx, ox + i1 * 2 + 1, none⟩ = some (.string ⟨x2.toArray⟩)) 10 _ _ _ _ ?_
              refine takeC (i := 4) (v := .string ⟨x1.toArray⟩) rfl (by kernel_rfl) (by kernel_rfl) (by kernel_rfl) (by kernel_rfl) (by kernel_rfl) (fun _ _ _ h => h) (Or.inl ⟨by rfl, fun V hV => by obtain ⟨g0, g1⟩ := hV; go_simp⟩) ?_
              refine takeC (i := 9) (v := .string ⟨x2.toArray⟩) rfl (by kernel_rfl) (by kernel_rfl) (by kernel_rfl) (by kernel_rfl) (by kernel_rfl) (fun _ _ _ h => h) (Or.inl ⟨by rfl, fun V hV => by obtain ⟨g0, g1⟩ := hV; go_simp⟩) ?_
              refine lastC (by kernel_rfl) (by kernel_rfl) ⟨c1, c2⟩ (of_decide_eq_true (by kernel_rfl)) ?_
              refine wpAny_ready (rs := [10]) (by kernel_rfl) (by simp) ?_
              refine AllReady.cons rfl (fun K hK => ?_) AllReady.nil
              go_simp
              refine (P1 _).mono ?_
              rintro e w5 ⟨rfl, hb5⟩
              refine hK _ _ ?_
              clear hK K
              refine wpAny_take (i := 11) (v := .tuple #[.string ⟨s.toArray⟩, .int .i64 0]) rfl (by kernel_rfl) (by kernel_rfl) (by kernel_rfl) (fun _ _ _ h => h) (Or.inl ⟨by rfl, fun w => by go_simp⟩) ?_
              refine wpAny_take (i := 12) (v := .string ⟨s.toArray⟩) rfl (by kernel_rfl) (by kernel_rfl) (by kernel_rfl) (fun _ _ _ h => h) (Or.inl ⟨by rfl, fun w => by go_simp⟩) ?_
              refine wpAny_take (i := 13) (v := .int .i64 0) rfl (by kernel_rfl) (by kernel_rfl) (by kernel_rfl) (fun _ _ _ h => h) (Or.inl ⟨by rfl, fun w => by go_simp⟩) ?_
              refine any_seqI [14, 15] [_, _] _ _ _ rfl (by kernel_rfl) ?_
              have hB5 : Below w.heap.size w w5 := hbw.drew.trans (hb5.mono hbw.size)
              have hB25 : Below w2.heap.size w2 w5 := hb2w.drew.trans (hb5.mono hb2w.size)
              have e3 := (hB25.cell (p := ⟨by', oy + i2 * 2, none⟩) hby).trans c3
              have e4 := (hB25.cell (p := ⟨by', oy + i2 * 2 + 1, none⟩) hby).trans c4
              go_wp2_with fail
              refine wp_region_any (by kernel_rfl) ?_
              change wpAny _ _ _ _ _ _ _ (World.drew _)
              refine wpAny_take (i := 0) (v := .slice (some ⟨by', oy, none⟩) dy cy) rfl (by kernel_rfl) (by kernel_rfl) (by kernel_rfl) (fun _ _ _ h => h) (Or.inl ⟨by rfl, fun w => by go_simp⟩) ?_
              refine wpAny_take (i := 1) (v := .int .i64 i2) rfl (by kernel_rfl) (by kernel_rfl) (by kernel_rfl) (fun _ _ _ h => h) (Or.inl ⟨by rfl, fun w => by go_simp⟩) ?_
              refine wpAny_take (i := 2) (v := .pointer (some ⟨by', oy + i2 * 2, none⟩)) rfl (by kernel_rfl) (by kernel_rfl) (by kernel_rfl) (fun _ _ _ h => h) (Or.inl ⟨by rfl, fun w => by go_simp⟩) ?_
              refine wpAny_take (i := 3) (v := .pointer (some ⟨by', oy + i2 * 2, none⟩)) rfl (by kernel_rfl) (by kernel_rfl) (by kernel_rfl) (fun _ _ _ h => h) (Or.inl ⟨by rfl, fun w => by go_simp⟩) ?_
              refine wpAny_take (i := 5) (v := .slice (some ⟨by', oy, none⟩) dy cy) rfl (by kernel_rfl) (by kernel_rfl) (by kernel_rfl) (fun _ _ _ h => h) (Or.inl ⟨by rfl, fun w => by go_simp⟩) ?_
              refine wpAny_take (i := 6) (v := .int .i64 i2) rfl (by kernel_rfl) (by kernel_rfl) (by kernel_rfl) (fun _ _ _ h => h) (Or.inl ⟨by rfl, fun w => by go_simp⟩) ?_
              refine wpAny_take (i := 7) (v := .pointer (some ⟨by', oy + i2 * 2, none⟩)) rfl (by kernel_rfl) (by kernel_rfl) (by kernel_rfl) (fun _ _ _ h => h) (Or.inl ⟨by rfl, fun w => by go_simp⟩) ?_
              refine wpAny_take (i := 8) (v := .pointer (some ⟨by', oy + i2 * 2 + 1, none⟩)) rfl (by kernel_rfl) (by kernel_rfl) (by kernel_rfl) (fun _ _ _ h => h) (Or.inl ⟨by rfl, fun w => by go_simp⟩) ?_
              refine any_of_C (C := fun V => V.cell? ⟨by', oy + i2 * 2, none⟩ = some (.string ⟨y1.toArray⟩) ∧ V.cell? ⟨by', oy + i2 * 2 + 1, none⟩ = some (.string ⟨y2.toArray⟩)) 10 _ _ _ _ ?_
              refine takeC (i := 4) (v := .string ⟨y1.toArray⟩) rfl (by kernel_rfl) (by kernel_rfl) (by kernel_rfl) (by kernel_rfl) (by kernel_rfl) (fun _ _ _ h => h) (Or.inl ⟨by rfl, fun V hV => by obtain ⟨g0, g1⟩ := hV; go_simp⟩) ?_
              refine takeC (i := 9) (v := .string ⟨y2.toArray⟩) rfl (by kernel_rfl) (by kernel_rfl) (by kernel_rfl) (by kernel_rfl) (by kernel_rfl) (fun _ _ _ h => h) (Or.inl ⟨by rfl, fun V hV => by obtain ⟨g0, g1⟩ := hV; go_simp⟩) ?_
              refine lastC (by kernel_rfl) (by kernel_rfl) ⟨e3, e4⟩ (of_decide_eq_true (by kernel_rfl)) ?_
              refine wpAny_ready (rs := [10]) (by kernel_rfl) (by simp) ?_
              refine AllReady.cons rfl (fun K hK => ?_) AllReady.nil
              go_simp
              refine (P2 _).mono ?_
              rintro e w6 ⟨rfl, hb6⟩
              refine hK _ _ ?_
              clear hK K
              refine wpAny_take (i := 11) (v := .tuple #[.string ⟨s.toArray⟩, .int .i64 0]) rfl (by kernel_rfl) (by kernel_rfl) (by kernel_rfl) (fun _ _ _ h => h) (Or.inl ⟨by rfl, fun w => by go_simp⟩) ?_
              refine wpAny_take (i := 12) (v := .string ⟨s.toArray⟩) rfl (by kernel_rfl) (by kernel_rfl) (by kernel_rfl) (fun _ _ _ h => h) (Or.inl ⟨by rfl, fun w => by go_simp⟩) ?_
              refine wpAny_take (i := 13) (v := .int .i64 0) rfl (by kernel_rfl) (by kernel_rfl) (by kernel_rfl) (fun _ _ _ h => h) (Or.inl ⟨by rfl, fun w => by go_simp⟩) ?_
              refine any_seqI [14, 15] [_, _] _ _ _ rfl (by kernel_rfl) ?_
              have hB6 : Below w.heap.size w w6 := hB5.drew.trans (hb6.mono hB5.size)
              have hB26 : Below w2.heap.size w2 w6 := hB25.drew.trans (hb6.mono hB25.size)
              go_wp2_with fail
              refine ⟨⟨k + 1, g1, g2, (by have := G1.out; have := HQ1.out; omega : _ = _), (by have := G2.out; have := HQ2.out; omega : _ = _), by have := G1.out; omega, by have := G2.out; omega, rfl, rfl, HJ', hB6, hB26⟩, ?_⟩
              have := G1.out
              simp [intOf]
              omega
            · have heb : (s == t) = false := beq_eq_false_iff_ne.2 hst
              rw [if_neg hst] at hJ
              have Q1 := fun w1 => rsumG_any s (by omega) w1
              have Q2 := fun w1 => rsumG_any t (by omega) w1
              by_cases hsm : sumL s = sumL t
              · have HE : Hid (O = some (s, t)) := by rw [unL_some sumL s t hst hsm] at hJ; exact hJ.symm
                obtain ⟨u, hu⟩ : ∃ u, sumL s = u := ⟨_, rfl⟩
                rw [hu] at Q1 hsm
                rw [← hsm] at Q2
                have heu : (u == u) = true := beq_self_eq_true u
                clear hJ hst hsm hu
                go_wp2_with fail
                refine wp_region_any (by kernel_rfl) ?_
                change wpAny _ _ _ _ _ _ _ (World.drew _)
                refine wpAny_take (i := 0) (v := .slice (some ⟨bx, ox, none⟩) dx cx) rfl (by kernel_rfl) (by kernel_rfl) (by kernel_rfl) (fun _ _ _ h => h) (Or.inl ⟨by rfl, fun w => by go_simp⟩) ?_
                refine wpAny_take (i := 1) (v := .int .i64 i1) rfl (by kernel_rfl) (by kernel_rfl) (by kernel_rfl) (fun _ _ _ h => h) (Or.inl ⟨by rfl, fun w => by go_simp⟩) ?_
                refine wpAny_take (i := 2) (v := .pointer (some ⟨bx, ox + i1 * 2, none⟩)) rfl (by kernel_rfl) (by kernel_rfl) (by kernel_rfl) (fun _ _ _ h => h) (Or.inl ⟨by rfl, fun w => by go_simp⟩) ?_
                refine wpAny_take (i := 3) (v := .pointer (some ⟨bx, ox + i1 * 2, none⟩)) rfl (by kernel_rfl) (by kernel_rfl) (by kernel_rfl) (fun _ _ _ h => h) (Or.inl ⟨by rfl, fun w => by go_simp⟩) ?_
                refine wpAny_take (i := 5) (v := .slice (some ⟨bx, ox, none⟩) dx cx) rfl (by kernel_rfl) (by kernel_rfl) (by kernel_rfl) (fun _ _ _ h => h) (Or.inl ⟨by rfl, fun w => by go_simp⟩) ?_
                refine wpAny_take (i := 6) (v := .int .i64 i1) rfl (by kernel_rfl) (by kernel_rfl) (by kernel_rfl) (fun _ _ _ h => h) (Or.inl ⟨by rfl, fun w => by go_simp⟩) ?_
                refine wpAny_take (i := 7) (v := .pointer (some ⟨bx, ox + i1 * 2, none⟩)) rfl (by kernel_rfl) (by kernel_rfl) (by kernel_rfl) (fun _ _ _ h => h) (Or.inl ⟨by rfl, fun w => by go_simp⟩) ?_
                refine wpAny_take (i := 8) (v := .pointer (some ⟨bx, ox + i1 * 2 + 1, none⟩)) rfl (by kernel_rfl) (by kernel_rfl) (by kernel_rfl) (fun _ _ _ h => h) (Or.inl ⟨by rfl, fun w => by go_simp⟩) ?_
                refine any_of_C (C := fun V => V.cell? ⟨bx, ox + i1 * 2, none⟩ = some (.string ⟨x1.toArray⟩) ∧ V.cell? ⟨bx, ox + i1 * 2 + 1, none⟩ = some (.string ⟨x2.toArray⟩)) 10 _ _ _ _ ?_
                refine takeC (i := 4) (v := .string ⟨x1.toArray⟩) rfl (by kernel_rfl) (by kernel_rfl) (by kernel_rfl) (by kernel_rfl) (by kernel_rfl) (fun _ _ _ h => h) (Or.inl ⟨by rfl, fun V hV => by obtain ⟨g0, g1⟩ := hV; go_simp⟩) ?_
                refine takeC (i := 9) (v := .string ⟨x2.toArray⟩) rfl (by kernel_rfl) (by kernel_rfl) (by kernel_rfl) (by kernel_rfl) (by kernel_rfl) (fun _ _ _ h => h) (Or.inl ⟨by rfl, fun V hV => by obtain ⟨g0, g1⟩ := hV; go_simp⟩) ?_
                refine lastC (by kernel_rfl) (by kernel_rfl) ⟨c1, c2⟩ (of_decide_eq_true (by kernel_rfl)) ?_
                refine wpAny_ready (rs := [10]) (by kernel_rfl) (by simp) ?_
                refine AllReady.cons rfl (fun K hK => ?_) AllReady.nil
                go_simp
                refine (P1 _).mono ?_
                rintro e w5 ⟨rfl, hb5⟩
                refine hK _ _ ?_
                clear hK K
                refine wpAny_take (i := 11) (v := .tuple #[.string ⟨s.toArray⟩, .int .i64 0]) rfl (by kernel_rfl) (by kernel_rfl) (by kernel_rfl) (fun _ _ _ h => h) (Or.inl ⟨by rfl, fun w => by go_simp⟩) ?_
                refine wpAny_take (i := 12) (v := .string ⟨s.toArray⟩) rfl (by kernel_rfl) (by kernel_rfl) (by kernel_rfl) (fun _ _ _ h => h) (Or.inl ⟨by rfl, fun w => by go_simp⟩) ?_
                refine wpAny_take (i := 13) (v := .int .i64 0) rfl (by kernel_rfl) (by kernel_rfl) (by kernel_rfl) (fun _ _ _ h => h) (Or.inl ⟨by rfl, fun w => by go_simp⟩) ?_
                refine any_seqI [14, 15] [_, _] _ _ _ rfl (by kernel_rfl) ?_
                have hB5 : Below w.heap.size w w5 := hbw.drew.trans (hb5.mono hbw.size)
                have hB25 : Below w2.heap.size w2 w5 := hb2w.drew.trans (hb5.mono hb2w.size)
                have e3 := (hB25.cell (p := ⟨by', oy + i2 * 2, none⟩) hby).trans c3
                have e4 := (hB25.cell (p := ⟨by', oy + i2 * 2 + 1, none⟩) hby).trans c4
                go_wp2_with fail
                refine wp_region_any (by kernel_rfl) ?_
                change wpAny _ _ _ _ _ _ _ (World.drew _)
                refine wpAny_take (i := 0) (v := .slice (some ⟨by', oy, none⟩) dy cy) rfl (by kernel_rfl) (by kernel_rfl) (by kernel_rfl) (fun _ _ _ h => h) (Or.inl ⟨by rfl, fun w => by go_simp⟩) ?_
                refine wpAny_take (i := 1) (v := .int .i64 i2) rfl (by kernel_rfl) (by kernel_rfl) (by kernel_rfl) (fun _ _ _ h => h) (Or.inl ⟨by rfl, fun w => by go_simp⟩) ?_
                refine wpAny_take (i := 2) (v := .pointer (some ⟨by', oy + i2 * 2, none⟩)) rfl (by kernel_rfl) (by kernel_rfl) (by kernel_rfl) (fun _ _ _ h => h) (Or.inl ⟨by rfl, fun w => by go_simp⟩) ?_
                refine wpAny_take (i := 3) (v := .pointer (some ⟨by', oy + i2 * 2, none⟩)) rfl (by kernel_rfl) (by kernel_rfl) (by kernel_rfl) (fun _ _ _ h => h) (Or.inl ⟨by rfl, fun w => by go_simp⟩) ?_
                refine wpAny_take (i := 5) (v := .slice (some ⟨by', oy, none⟩) dy cy) rfl (by kernel_rfl) (by kernel_rfl) (by kernel_rfl) (fun _ _ _ h => h) (Or.inl ⟨by rfl, fun w => by go_simp⟩) ?_
                refine wpAny_take (i := 6) (v := .int .i64 i2) rfl (by kernel_rfl) (by kernel_rfl) (by kernel_rfl) (fun _ _ _ h => h) (Or.inl ⟨by rfl, fun w => by go_simp⟩) ?_
                refine wpAny_take (i := 7) (v := .pointer (some ⟨by', oy + i2 * 2, none⟩)) rfl (by kernel_rfl) (by kernel_rfl) (by kernel_rfl) (fun _ _ _ h => h) (Or.inl ⟨by rfl, fun w => by go_simp⟩) ?_
                refine wpAny_take (i := 8) (v := .pointer (some ⟨by', oy + i2 * 2 + 1, none⟩)) rfl (by kernel_rfl) (by kernel_rfl) (by kernel_rfl) (fun _ _ _ h => h) (Or.inl ⟨by rfl, fun w => by go_simp⟩) ?_
                refine any_of_C (C := fun V => V.cell? ⟨by', oy + i2 * 2, none⟩ = some (.string ⟨y1.toArray⟩) ∧ V.cell? ⟨by', oy + i2 * 2 + 1, none⟩ = some (.string ⟨y2.toArray⟩)) 10 _ _ _ _ ?_
                refine takeC (i := 4) (v := .string ⟨y1.toArray⟩) rfl (by kernel_rfl) (by kernel_rfl) (by kernel_rfl) (by kernel_rfl) (by kernel_rfl) (fun _ _ _ h => h) (Or.inl ⟨by rfl, fun V hV => by obtain ⟨g0, g1⟩ := hV; go_simp⟩) ?_
                refine takeC (i := 9) (v := .string ⟨y2.toArray⟩) rfl (by kernel_rfl) (by kernel_rfl) (by kernel_rfl) (by kernel_rfl) (by kernel_rfl) (fun _ _ _ h => h) (Or.inl ⟨by rfl, fun V hV => by obtain ⟨g0, g1⟩ := hV; go_simp⟩) ?_
                refine lastC (by kernel_rfl) (by kernel_rfl) ⟨e3, e4⟩ (of_decide_eq_true (by kernel_rfl)) ?_
                refine wpAny_ready (rs := [10]) (by kernel_rfl) (by simp) ?_
                refine AllReady.cons rfl (fun K hK => ?_) AllReady.nil
                go_simp
                refine (P2 _).mono ?_
                rintro e w6 ⟨rfl, hb6⟩
                refine hK _ _ ?_
                clear hK K
                refine wpAny_take (i := 11) (v := .tuple #[.string ⟨t.toArray⟩, .int .i64 0]) rfl (by kernel_rfl) (by kernel_rfl) (by kernel_rfl) (fun _ _ _ h => h) (Or.inl ⟨by rfl, fun w => by go_simp⟩) ?_
                refine wpAny_take (i := 12) (v := .string ⟨t.toArray⟩) rfl (by kernel_rfl) (by kernel_rfl) (by kernel_rfl) (fun _ _ _ h => h) (Or.inl ⟨by rfl, fun w => by go_simp⟩) ?_
                refine wpAny_take (i := 13) (v := .int .i64 0) rfl (by kernel_rfl) (by kernel_rfl) (by kernel_rfl) (fun _ _ _ h => h) (Or.inl ⟨by rfl, fun w => by go_simp⟩) ?_
                refine any_seqI [14, 15] [_, _] _ _ _ rfl (by kernel_rfl) ?_
                have hB6 : Below w.heap.size w w6 := hB5.drew.trans (hb6.mono hB5.size)
                have hB26 : Below w2.heap.size w2 w6 := hB25.drew.trans (hb6.mono hB25.size)
                go_wp2_with fail
                refine (Q1 w6).mono ?_
                rintro e w7 ⟨rfl, hb7⟩
                have hB7 : Below w.heap.size w w7 := hB6.trans (hb7.mono hB6.size)
                go_wp2_with fail
                refine (Q2 w7).mono ?_
                rintro e w8 ⟨rfl, hb8⟩
                go_wp2_with fail
                go_ret3
                exact ⟨by rw [HE.out]; rfl, hB7.trans (hb8.mono hB7.size)⟩
              · have HE : Hid (O = none) := by rw [unL_ne sumL s t hsm] at hJ; exact hJ.symm
                have heu : (sumL s == sumL t) = false := beq_eq_false_iff_ne.2 hsm
                obtain ⟨u, hu⟩ : ∃ u, sumL s = u := ⟨_, rfl⟩
                obtain ⟨u2, hu2⟩ : ∃ u, sumL t = u := ⟨_, rfl⟩
                rw [hu] at Q1 heu
                rw [hu2] at Q2 heu
                clear hJ hst hsm hu hu2
                go_wp2_with fail
                refine wp_region_any (by kernel_rfl) ?_
                change wpAny _ _ _ _ _ _ _ (World.drew _)
                refine wpAny_take (i := 0) (v := .slice (some ⟨bx, ox, none⟩) dx cx) rfl (by kernel_rfl) (by kernel_rfl) (by kernel_rfl) (fun _ _ _ h => h) (Or.inl ⟨by rfl, fun w => by go_simp⟩) ?_
                refine wpAny_take (i := 1) (v := .int .i64 i1) rfl (by kernel_rfl) (by kernel_rfl) (by kernel_rfl) (fun _ _ _ h => h) (Or.inl ⟨by rfl, fun w => by go_simp⟩) ?_
                refine wpAny_take (i := 2) (v := .pointer (some ⟨bx, ox + i1 * 2, none⟩)) rfl (by kernel_rfl) (by kernel_rfl) (by kernel_rfl) (fun _ _ _ h => h) (Or.inl ⟨by rfl, fun w => by go_simp⟩) ?_
                refine wpAny_take (i := 3) (v := .pointer (some ⟨bx, ox + i1 * 2, none⟩)) rfl (by kernel_rfl) (by kernel_rfl) (by kernel_rfl) (fun _ _ _ h => h) (Or.inl ⟨by rfl, fun w => by go_simp⟩) ?_
                refine wpAny_take (i := 5) (v := .slice (some ⟨bx, ox, none⟩) dx cx) rfl (by kernel_rfl) (by kernel_rfl) (by kernel_rfl) (fun _ _ _ h => h) (Or.inl ⟨by rfl, fun w => by go_simp⟩) ?_
                refine wpAny_take (i := 6) (v := .int .i64 i1) rfl (by kernel_rfl) (by kernel_rfl) (by kernel_rfl) (fun _ _ _ h => h) (Or.inl ⟨by rfl, fun w => by go_simp⟩) ?_
                refine wpAny_take (i := 7) (v := .pointer (some ⟨bx, ox + i1 * 2, none⟩)) rfl (by kernel_rfl) (by kernel_rfl) (by kernel_rfl) (fun _ _ _ h => h) (Or.inl ⟨by rfl, fun w => by go_simp⟩) ?_
                refine wpAny_take (i := 8) (v := .pointer (some ⟨bx, ox + i1 * 2 + 1, none⟩)) rfl (by kernel_rfl) (by kernel_rfl) (by kernel_rfl) (fun _ _ _ h => h) (Or.inl ⟨by rfl, fun w => by go_simp⟩) ?_
                refine any_of_C (C := fun V => V.cell? ⟨bx, ox + i1 * 2, none⟩ = some (.string ⟨x1.toArray⟩) ∧ V.cell? ⟨bx, ox + i1 * 2 + 1, none⟩ = some (.string ⟨x2.toArray⟩)) 10 _ _ _ _ ?_
                refine takeC (i := 4) (v := .string ⟨x1.toArray⟩) rfl (by kernel_rfl) (by kernel_rfl) (by kernel_rfl) (by kernel_rfl) (by kernel_rfl) (fun _ _ _ h => h) (Or.inl ⟨by rfl, fun V hV => by obtain ⟨g0, g1⟩ := hV; go_simp⟩) ?_
                refine takeC (i := 9) (v := .string ⟨x2.toArray⟩) rfl (by kernel_rfl) (by kernel_rfl) (by kernel_rfl) (by kernel_rfl) (by kernel_rfl) (fun _ _ _ h => h) (Or.inl ⟨by rfl, fun V hV => by obtain ⟨g0, g1⟩ := hV; go_simp⟩) ?_
                refine lastC (by kernel_rfl) (by kernel_rfl) ⟨c1, c2⟩ (of_decide_eq_true (by kernel_rfl)) ?_
                refine wpAny_ready (rs := [10]) (by kernel_rfl) (by simp) ?_
                refine AllReady.cons rfl (fun K hK => ?_) AllReady.nil
                go_simp
                refine (P1 _).mono ?_
                rintro e w5 ⟨rfl, hb5⟩
                refine hK _ _ ?_
                clear hK K
                refine wpAny_take (i := 11) (v := .tuple #[.string ⟨s.toArray⟩, .int .i64 0]) rfl (by kernel_rfl) (by kernel_rfl) (by kernel_rfl) (fun _ _ _ h => h) (Or.inl ⟨by rfl, fun w => by go_simp⟩) ?_
                refine wpAny_take (i := 12) (v := .string ⟨s.toArray⟩) rfl (by kernel_rfl) (by kernel_rfl) (by kernel_rfl) (fun _ _ _ h => h) (Or.inl ⟨by rfl, fun w => by go_simp⟩) ?_
                refine wpAny_take (i := 13) (v := .int .i64 0) rfl (by kernel_rfl) (by kernel_rfl) (by kernel_rfl) (fun _ _ _ h => h) (Or.inl ⟨by rfl, fun w => by go_simp⟩) ?_
                refine any_seqI [14, 15] [_, _] _ _ _ rfl (by kernel_rfl) ?_
                have hB5 : Below w.heap.size w w5 := hbw.drew.trans (hb5.mono hbw.size)
                have hB25 : Below w2.heap.size w2 w5 := hb2w.drew.trans (hb5.mono hb2w.size)
                have e3 := (hB25.cell (p := ⟨by', oy + i2 * 2, none⟩) hby).trans c3
                have e4 := (hB25.cell (p := ⟨by', oy + i2 * 2 + 1, none⟩) hby).trans c4
                go_wp2_with fail
                refine wp_region_any (by kernel_rfl) ?_
                change wpAny _ _ _ _ _ _ _ (World.drew _)
                refine wpAny_take (i := 0) (v := .slice (some ⟨by', oy, none⟩) dy cy) rfl (by kernel_rfl) (by kernel_rfl) (by kernel_rfl) (fun _ _ _ h => h) (Or.inl ⟨by rfl, fun w => by go_simp⟩) ?_
                refine wpAny_take (i := 1) (v := .int .i64 i2) rfl (by kernel_rfl) (by kernel_rfl) (by kernel_rfl) (fun _ _ _ h => h) (Or.inl ⟨by rfl, fun w => by go_simp⟩) ?_
                refine wpAny_take (i := 2) (v := .pointer (some ⟨by', oy + i2 * 2, none⟩)) rfl (by kernel_rfl) (by kernel_rfl) (by kernel_rfl) (fun _ _ _ h => h) (Or.inl ⟨by rfl, fun w => by go_simp⟩) ?_
                refine wpAny_take (i := 3) (v := .pointer (some ⟨by', oy + i2 * 2, none⟩)) rfl (by kernel_rfl) (by kernel_rfl) (by kernel_rfl) (fun _ _ _ h => h) (Or.inl ⟨by rfl, fun w => by go_simp⟩) ?_
                refine wpAny_take (i := 5) (v := .slice (some ⟨by', oy, none⟩) dy cy) rfl (by kernel_rfl) (by kernel_rfl) (by kernel_rfl) (fun _ _ _ h => h) (Or.inl ⟨by rfl, fun w => by go_simp⟩) ?_
                refine wpAny_take (i := 6) (v := .int .i64 i2) rfl (by kernel_rfl) (by kernel_rfl) (by kernel_rfl) (fun _ _ _ h => h) (Or.inl ⟨by rfl, fun w => by go_simp⟩) ?_
                refine wpAny_take (i := 7) (v := .pointer (some ⟨by', oy + i2 * 2, none⟩)) rfl (by kernel_rfl) (by kernel_rfl) (by kernel_rfl) (fun _ _ _ h => h) (Or.inl ⟨by rfl, fun w => by go_simp⟩) ?_
                refine wpAny_take (i := 8) (v := .pointer (some ⟨by', oy + i2 * 2 + 1, none⟩)) rfl (by kernel_rfl) (by kernel_rfl) (by kernel_rfl) (fun _ _ _ h => h) (Or.inl ⟨by rfl, fun w => by go_simp⟩) ?_
                refine any_of_C (C := fun V => V.cell? ⟨by', oy + i2 * 2, none⟩ = some (.string ⟨y1.toArray⟩) ∧ V.cell? ⟨by', oy + i2 * 2 + 1, none⟩ = some (.string ⟨y2.toArray⟩)) 10 _ _ _ _ ?_
                refine takeC (i := 4) (v := .string ⟨y1.toArray⟩) rfl (by kernel_rfl) (by kernel_rfl) (by kernel_rfl) (by kernel_rfl) (by kernel_rfl) (fun _ _ _ h => h) (Or.inl ⟨by rfl, fun V hV => by obtain ⟨g0, g1⟩ := hV; go_simp⟩) ?_
                refine takeC (i := 9) (v := .string ⟨y2.toArray⟩) rfl (by kernel_rfl) (by kernel_rfl) (by kernel_rfl) (by kernel_rfl) (by kernel_rfl) (fun _ _ _ h => h) (Or.inl ⟨by rfl, fun V hV => by obtain ⟨g0, g1⟩ := hV; go_simp⟩) ?_
                refine lastC (by kernel_rfl) (by kernel_rfl) ⟨e3, e4⟩ (of_decide_eq_true (by kernel_rfl)) ?_
                refine wpAny_ready (rs := [10]) (by kernel_rfl) (by simp) ?_
                refine AllReady.cons rfl (fun K hK => ?_) AllReady.nil
                go_simp
                refine (P2 _).mono ?_
                rintro e w6 ⟨rfl, hb6⟩
                refine hK _ _ ?_
                clear hK K
                refine wpAny_take (i := 11) (v := .tuple #[.string ⟨t.toArray⟩, .int .i64 0]) rfl (by kernel_rfl) (by kernel_rfl) (by kernel_rfl) (fun _ _ _ h => h) (Or.inl ⟨by rfl, fun w => by go_simp⟩) ?_
                refine wpAny_take (i := 12) (v := .string ⟨t.toArray⟩) rfl (by kernel_rfl) (by kernel_rfl) (by kernel_rfl) (fun _ _ _ h => h) (Or.inl ⟨by rfl, fun w => by go_simp⟩) ?_
                refine wpAny_take (i := 13) (v := .int .i64 0) rfl (by kernel_rfl) (by kernel_rfl) (by kernel_rfl) (fun _ _ _ h => h) (Or.inl ⟨by rfl, fun w => by go_simp⟩) ?_
                refine any_seqI [14, 15] [_, _] _ _ _ rfl (by kernel_rfl) ?_
                have hB6 : Below w.heap.size w w6 := hB5.drew.trans (hb6.mono hB5.size)
                have hB26 : Below w2.heap.size w2 w6 := hB25.drew.trans (hb6.mono hB25.size)
                go_wp2_with fail
                refine (Q1 w6).mono ?_
                rintro e w7 ⟨rfl, hb7⟩
                have hB7 : Below w.heap.size w w7 := hB6.trans (hb7.mono hB6.size)
                go_wp2_with fail
                refine (Q2 w7).mono ?_
                rintro e w8 ⟨rfl, hb8⟩
                go_wp2_with fail
                go_ret3
                exact ⟨by rw [HE.out]; rfl, hB7.trans (hb8.mono hB7.size)⟩
          · have HE : Hid (O = none) := HEN (.inr (by omega))
            clear HEN HJ
            go_wp2_with fail
            go_ret3
            exact ⟨by rw [HE.out]; rfl, hbw⟩
        · have HE : Hid (O = none) := HEN (.inl (by omega))
          clear HEN HJ
          go_wp2_with fail
          go_ret3
          exact ⟨by rw [HE.out]; rfl, hbw⟩
end Go.Proofs.YtgickejfcmnaiaaDoor
