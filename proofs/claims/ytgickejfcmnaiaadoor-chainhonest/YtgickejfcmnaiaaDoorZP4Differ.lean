/-
  What chain.inputOf, differ and Differ answer.
-/
import Derived.Test.YtgickejfcmnaiaaDoorZP4Links
import Derived.Test.YtgickejfcmnaiaaDoorZChainO
import Derived.Test.YtgickejfcmnaiaaDoorGH
import Derived.WalkMore
namespace Go.Proofs.YtgickejfcmnaiaaDoor
set_option maxRecDepth 100000
open Go.RowKit
set_option linter.unusedVariables false
attribute [local go_sem] ba_size
set_option maxHeartbeats 400000 in
theorem pinOf_any (p b : List UInt8) (h : ¬ bigB p b) (w : World) :
    Calls Tryd.prog 41 #[.agg #[.string ⟨p.toArray⟩, .string ⟨b.toArray⟩]] w fun e w' => e = .returned (.string ⟨(cinL p b).toArray⟩) ∧ Below w.heap.size w w' := by
  have hI := fun w1 => pinput_ok p b h w1
  obtain ⟨x, hx⟩ : ∃ x, cinL p b = x := ⟨_, rfl⟩
  rw [hx] at hI ⊢
  clear hx
  go_enter Tryd.func41, Tryd.ntmps41
  go_wp2_with fail
  refine (hI _).mono ?_
  rintro e w1 ⟨rfl, hb1⟩
  go_wp2_with fail
  go_ret
  exact ⟨rfl, ((Below.refl _ w).alloc (Nat.le_refl _) _).trans (hb1.mono (by simp))⟩
set_option maxHeartbeats 4000000 in
theorem pdifF_any (A B : List (List UInt8)) (va vb : Value) (w : World) (hG : G w) (hA : IsTxt w va A) (hB : IsTxt w vb B) (hla : A.length ≤ 1000000) (hlb : B.length ≤ 1000000) :
    Calls Tryd.prog 33 #[sumFn, va, vb] w fun e w' => e = .returned (unV (chDifL sumL A B)) ∧ Below w.heap.size w w' := by
  have hg3 := hG.size
  have hL1 := plinksF_any A va w hG hA (by omega)
  have hL2 := fun w1 (h1 : Below w.heap.size w w1) => plinksF_any B vb w1 (hG.below h1 hg3) (hB.below h1) (by omega)
  have s1 := links_small sumL sumL_32 A [] (by simp)
  have s2 := links_small sumL sumL_32 B [] (by simp)
  have n1 := linksF_len sumL A []
  have n2 := linksF_len sumL B []
  unfold linksL at hL1 hL2
  unfold chDifL
  cases eA : headF sumL [] A with
  | none =>
    rw [eA] at hL1
    rw [if_pos (Or.inl rfl)]
    clear hL2 s1 s2 n1 n2 eA hA hB
    go_enter Tryd.func33, Tryd.ntmps33
    go_wp2_with fail
    refine hL1.mono ?_
    rintro e w1 hres1
    obtain ⟨r1, rfl, hb1, hown1⟩ := hres1
    go_wp2_with fail
    go_ret3
    exact ⟨rfl, hb1⟩
  | some ha =>
    rw [eA] at hL1 s1
    cases eB : headF sumL [] B with
    | none =>
      rw [eB] at hL2
      rw [if_pos (Or.inr rfl)]
      clear s1 s2 n1 n2 eA eB hA hB
      go_enter Tryd.func33, Tryd.ntmps33
      go_wp2_with fail
      refine hL1.mono ?_
      rintro e w1 hres1
      obtain ⟨r1, rfl, hb1, hown1⟩ := hres1
      go_wp2_with fail
      refine (hL2 w1 hb1).mono ?_
      rintro e w2 hres2
      obtain ⟨r2, rfl, hb2, hown2⟩ := hres2
      go_wp2_with fail
      go_ret3
      exact ⟨rfl, bel_trans hb1 hb2⟩
    | some hb =>
      rw [eB] at hL2 s2
      rw [if_neg (by simp)]
      obtain ⟨X, hX⟩ : ∃ X, linksF sumL [] A = X := ⟨_, rfl⟩
      obtain ⟨Y, hY⟩ : ∃ Y, linksF sumL [] B = Y := ⟨_, rfl⟩
      rw [hX] at hL1 s1 n1 ⊢
      rw [hY] at hL2 s2 n2 ⊢
      clear hX hY eA eB hA hB
      have S1 : Hid (∀ x ∈ X, ¬ bigB x.1 x.2 ∧ x.1.length ≤ 32) := s1 (by simp)
      have S2 : Hid (∀ x ∈ Y, ¬ bigB x.1 x.2 ∧ x.1.length ≤ 32) := s2 (by simp)
      obtain ⟨O, hO⟩ : ∃ O, fuL sumL (insC X) (insC Y) = O := ⟨_, rfl⟩
      have HO : Hid (fuR sumL ((insC X).reverse.drop 0) ((insC Y).reverse.drop 0) = O) := hO
      rw [hO]
      rw [← n1] at hla
      rw [← n2] at hlb
      clear s1 s2 hO n1 n2
      go_enter Tryd.func33, Tryd.ntmps33
      go_wp2_with fail
      refine hL1.mono ?_
      rintro e w1 hres1
      obtain ⟨r1, rfl, hb1, hown1⟩ := hres1
      go_wp2_with fail
      refine (hL2 w1 hb1).mono ?_
      rintro e w2 hres2
      obtain ⟨r2, rfl, hb2, hown2⟩ := hres2
      have hown1' := owns_below hown1 hb2
      have I1 : IsLnk w2 r1 X := IsLnk.own hown1' (by show X.length ≤ _; omega) (fun t ht => by have := S1.out t ht; unfold bigB at this; omega)
      have I2 : IsLnk w2 r2 Y := IsLnk.own hown2 (by show Y.length ≤ _; omega) (fun t ht => by have := S2.out t ht; unfold bigB at this; omega)
      obtain ⟨ax, cx, rfl, hx1, hx2, hx3, CX⟩ := I1.some_at
      obtain ⟨ay, cy, rfl, hy1, hy2, hy3, CY⟩ := I2.some_at
      have hB2 : Below w.heap.size w w2 := bel_trans hb1 hb2
      clear I1 I2 hown1 hown1' hown2 hb1 hb2 hL1 hL2
      obtain ⟨dx, hdx⟩ : ∃ d, X.length = d := ⟨_, rfl⟩
      obtain ⟨dy, hdy⟩ : ∃ d, Y.length = d := ⟨_, rfl⟩
      have HDX : Hid (X.length = dx) := hdx
      have HDY : Hid (Y.length = dy) := hdy
      rw [hdx] at hla hx1 hx3 ⊢
      rw [hdy] at hlb hy1 hy3 ⊢
      clear hdx hdy
      (go_wp2_with fail) <;>
      (go_loopw [36] (fun bk wr => ∃ k : Nat, bk = .int .i64 k ∧ k ≤ dx ∧ k ≤ dy ∧ Hid (fuR sumL ((insC X).reverse.drop k) ((insC Y).reverse.drop k) = O) ∧ Below w.heap.size w wr ∧ Below w2.heap.size w2 wr) (fun bk _ => (dx - (intOf bk).toNat))
       case atStart => exact ⟨0, rfl, by omega, by omega, HO, hB2, Below.refl _ _⟩
       case round =>
        obtain ⟨k, rfl, hkx, hky, HJ, hbw, hb2w⟩ := hrel
        by_cases hend : k < dx ∧ k < dy
        · obtain ⟨hk1, hk2⟩ := hend
          have j1 : (k : Int) < (dx : Int) := by omega
          have j2 : (k : Int) < (dy : Int) := by omega
          have hm1 : X.length - 1 - k < X.length := by have := HDX.out; omega
          have hm2 : Y.length - 1 - k < Y.length := by have := HDY.out; omega
          obtain ⟨bx, ox, rfl, hbx, ex1, ex2⟩ := CX.out _ hm1
          obtain ⟨by', oy, rfl, hby, ey1, ey2⟩ := CY.out _ hm2
          have c1 := (hb2w.cell (p := ⟨bx, ox + (X.length - 1 - k) * 2, none⟩) hbx).trans ex1
          have c2 := (hb2w.cell (p := ⟨bx, ox + (X.length - 1 - k) * 2 + 1, none⟩) hbx).trans ex2
          have c3 := (hb2w.cell (p := ⟨by', oy + (Y.length - 1 - k) * 2, none⟩) hby).trans ey1
          have c4 := (hb2w.cell (p := ⟨by', oy + (Y.length - 1 - k) * 2 + 1, none⟩) hby).trans ey2
          have q1 := S1.out _ (List.getElem_mem hm1)
          have q2 := S2.out _ (List.getElem_mem hm2)
          have hJ := HJ.out
          rw [insC_rev X k (by have := HDX.out; omega), insC_rev Y k (by have := HDY.out; omega), fuR] at hJ
          obtain ⟨x1, hx1'⟩ : ∃ x, (X[X.length - 1 - k]'hm1).1 = x := ⟨_, rfl⟩
          obtain ⟨x2, hx2'⟩ : ∃ x, (X[X.length - 1 - k]'hm1).2 = x := ⟨_, rfl⟩
          obtain ⟨y1, hy1'⟩ : ∃ x, (Y[Y.length - 1 - k]'hm2).1 = x := ⟨_, rfl⟩
          obtain ⟨y2, hy2'⟩ : ∃ x, (Y[Y.length - 1 - k]'hm2).2 = x := ⟨_, rfl⟩
          rw [hx1'] at c1 q1 hJ
          rw [hx2'] at c2 q1 hJ
          rw [hy1'] at c3 q2 hJ
          rw [hy2'] at c4 q2 hJ
          obtain ⟨i1, hi1⟩ : ∃ i, X.length - 1 - k = i := ⟨_, rfl⟩
          obtain ⟨i2, hi2⟩ : ∃ i, Y.length - 1 - k = i := ⟨_, rfl⟩
          rw [hi1] at c1 c2
          rw [hi2] at c3 c4
          have hi3 : i1 + 1 + k = dx := by have := HDX.out; omega
          have hi4 : i2 + 1 + k = dy := by have := HDY.out; omega
          clear hi1 hi2
          clear hx1' hx2' hy1' hy2' HJ ex1 ex2 ey1 ey2 hm1 hm2
          have P1 := fun w1 => pinOf_any x1 x2 q1.1 w1
          have P2 := fun w1 => pinOf_any y1 y2 q2.1 w1
          have z1 := (cinL_len x1 x2).2
          have z2 := (cinL_len y1 y2).2
          have z3 : (cinL x1 x2).length ≤ 1000000 := by have := q1.1; unfold bigB at this; omega
          have z4 : (cinL y1 y2).length ≤ 1000000 := by have := q2.1; unfold bigB at this; omega
          clear z1 z2 q1 q2
          obtain ⟨s, hs⟩ : ∃ s, cinL x1 x2 = s := ⟨_, rfl⟩
          obtain ⟨t, ht⟩ : ∃ t, cinL y1 y2 = t := ⟨_, rfl⟩
          rw [hs] at P1 hJ z3
          rw [ht] at P2 hJ z4
          clear hs ht
          have hlx : bx < wr.drew.heap.size := Nat.lt_of_lt_of_le hbx hb2w.size
          have hly : by' < wr.drew.heap.size := Nat.lt_of_lt_of_le hby hb2w.size
          have CK : ∀ V V' : World, bx < V.heap.size → by' < V.heap.size → Below V.heap.size V V' → (V.cell? ⟨bx, ox + i1 * 2, none⟩ = some (.string ⟨x1.toArray⟩) ∧ V.cell? ⟨bx, ox + i1 * 2 + 1, none⟩ = some (.string ⟨x2.toArray⟩) ∧ V.cell? ⟨by', oy + i2 * 2, none⟩ = some (.string ⟨y1.toArray⟩) ∧ V.cell? ⟨by', oy + i2 * 2 + 1, none⟩ = some (.string ⟨y2.toArray⟩)) → (V'.cell? ⟨bx, ox + i1 * 2, none⟩ = some (.string ⟨x1.toArray⟩) ∧ V'.cell? ⟨bx, ox + i1 * 2 + 1, none⟩ = some (.string ⟨x2.toArray⟩) ∧ V'.cell? ⟨by', oy + i2 * 2, none⟩ = some (.string ⟨y1.toArray⟩) ∧ V'.cell? ⟨by', oy + i2 * 2 + 1, none⟩ = some (.string ⟨y2.toArray⟩)) :=
            fun V V' l1 l2 hb h => ⟨(hb.cell (p := ⟨bx, ox + i1 * 2, none⟩) l1).trans h.1, (hb.cell (p := ⟨bx, ox + i1 * 2 + 1, none⟩) l1).trans h.2.1, (hb.cell (p := ⟨by', oy + i2 * 2, none⟩) l2).trans h.2.2.1, (hb.cell (p := ⟨by', oy + i2 * 2 + 1, none⟩) l2).trans h.2.2.2⟩
          have k1 : IntKind.i64.wrap ((dx : Int) - 1) = (dx : Int) - 1 := by rw [IntKind.wrap_i64]; omega
          have k2 : IntKind.i64.wrap ((dy : Int) - 1) = (dy : Int) - 1 := by rw [IntKind.wrap_i64]; omega
          have k3 : IntKind.i64.wrap ((dx : Int) - 1 - (k : Int)) = (i1 : Int) := by rw [IntKind.wrap_i64]; omega
          have k4 : IntKind.i64.wrap ((dy : Int) - 1 - (k : Int)) = (i2 : Int) := by rw [IntKind.wrap_i64]; omega
          have k9 : (i1 : Int) < (dx : Int) := by omega
          have k10 : (i2 : Int) < (dy : Int) := by omega
          have HI3 : Hid (i1 + 1 + k = dx) := hi3
          have HI4 : Hid (i2 + 1 + k = dy) := hi4
          clear hi3 hi4
          by_cases hst : s = t
          · subst hst
            have heb : (s == s) = true := beq_self_eq_true s
            rw [if_pos rfl] at hJ
            have HJ' : Hid (fuR sumL ((insC X).reverse.drop (k + 1)) ((insC Y).reverse.drop (k + 1)) = O) := hJ
            clear hJ
            go_wp2_with fail
            refine wp_region_any (by kernel_rfl) ?_
            change wpAny _ _ _ _ _ _ _ (World.drew _)
            refine wpAny_take (i := 0) (v := .slice (some ⟨bx, ox, none⟩) dx cx) rfl (by kernel_rfl) (by kernel_rfl) (by kernel_rfl) (fun _ _ _ h => h) (Or.inl ⟨by rfl, fun w => by go_simp⟩) ?_
            refine wpAny_take (i := 1) (v := .slice (some ⟨bx, ox, none⟩) dx cx) rfl (by kernel_rfl) (by kernel_rfl) (by kernel_rfl) (fun _ _ _ h => h) (Or.inl ⟨by rfl, fun w => by go_simp⟩) ?_
            refine wpAny_take (i := 2) (v := .int .i64 dx) rfl (by kernel_rfl) (by kernel_rfl) (by kernel_rfl) (fun _ _ _ h => h) (Or.inl ⟨by rfl, fun w => by go_simp⟩) ?_
            refine wpAny_take (i := 3) (v := .int .i64 ((dx : Int) - 1)) rfl (by kernel_rfl) (by kernel_rfl) (by kernel_rfl) (fun _ _ _ h => h) (Or.inl ⟨by rfl, fun w => by go_simp⟩) ?_
            refine wpAny_take (i := 4) (v := .int .i64 k) rfl (by kernel_rfl) (by kernel_rfl) (by kernel_rfl) (fun _ _ _ h => h) (Or.inl ⟨by rfl, fun w => by go_simp⟩) ?_
            refine wpAny_take (i := 5) (v := .int .i64 i1) rfl (by kernel_rfl) (by kernel_rfl) (by kernel_rfl) (fun _ _ _ h => h) (Or.inl ⟨by rfl, fun w => by go_simp⟩) ?_
            refine wpAny_take (i := 6) (v := .pointer (some ⟨bx, ox + i1 * 2, none⟩)) rfl (by kernel_rfl) (by kernel_rfl) (by kernel_rfl) (fun _ _ _ h => h) (Or.inl ⟨by rfl, fun w => by go_simp⟩) ?_
            refine wpAny_take (i := 9) (v := .slice (some ⟨by', oy, none⟩) dy cy) rfl (by kernel_rfl) (by kernel_rfl) (by kernel_rfl) (fun _ _ _ h => h) (Or.inl ⟨by rfl, fun w => by go_simp⟩) ?_
            refine wpAny_take (i := 10) (v := .slice (some ⟨by', oy, none⟩) dy cy) rfl (by kernel_rfl) (by kernel_rfl) (by kernel_rfl) (fun _ _ _ h => h) (Or.inl ⟨by rfl, fun w => by go_simp⟩) ?_
            refine wpAny_take (i := 11) (v := .int .i64 dy) rfl (by kernel_rfl) (by kernel_rfl) (by kernel_rfl) (fun _ _ _ h => h) (Or.inl ⟨by rfl, fun w => by go_simp⟩) ?_
            refine wpAny_take (i := 12) (v := .int .i64 ((dy : Int) - 1)) rfl (by kernel_rfl) (by kernel_rfl) (by kernel_rfl) (fun _ _ _ h => h) (Or.inl ⟨by rfl, fun w => by go_simp⟩) ?_
            refine wpAny_take (i := 13) (v := .int .i64 k) rfl (by kernel_rfl) (by kernel_rfl) (by kernel_rfl) (fun _ _ _ h => h) (Or.inl ⟨by rfl, fun w => by go_simp⟩) ?_
            refine wpAny_take (i := 14) (v := .int .i64 i2) rfl (by kernel_rfl) (by kernel_rfl) (by kernel_rfl) (fun _ _ _ h => h) (Or.inl ⟨by rfl, fun w => by go_simp⟩) ?_
            refine wpAny_take (i := 15) (v := .pointer (some ⟨by', oy + i2 * 2, none⟩)) rfl (by kernel_rfl) (by kernel_rfl) (by kernel_rfl) (fun _ _ _ h => h) (Or.inl ⟨by rfl, fun w => by go_simp⟩) ?_
            refine any_of_C (C := fun V => V.cell? ⟨bx, ox + i1 * 2, none⟩ = some (.string ⟨x1.toArray⟩) ∧ V.cell? ⟨bx, ox + i1 * 2 + 1, none⟩ = some (.string ⟨x2.toArray⟩) ∧ V.cell? ⟨by', oy + i2 * 2, none⟩ = some (.string ⟨y1.toArray⟩) ∧ V.cell? ⟨by', oy + i2 * 2 + 1, none⟩ = some (.string ⟨y2.toArray⟩)) 19 _ _ _ _ ?_
            refine takeC (i := 7) (v := .agg #[.string ⟨x1.toArray⟩, .string ⟨x2.toArray⟩]) rfl (by kernel_rfl) (by kernel_rfl) (by kernel_rfl) (by kernel_rfl) (by kernel_rfl) (fun _ _ _ h => h) (Or.inl ⟨by rfl, fun V hV => by obtain ⟨g0, g1, g2, g3⟩ := hV; go_simp⟩) ?_
            refine takeC (i := 16) (v := .agg #[.string ⟨y1.toArray⟩, .string ⟨y2.toArray⟩]) rfl (by kernel_rfl) (by kernel_rfl) (by kernel_rfl) (by kernel_rfl) (by kernel_rfl) (fun _ _ _ h => h) (Or.inl ⟨by rfl, fun V hV => by obtain ⟨g0, g1, g2, g3⟩ := hV; go_simp⟩) ?_
            refine consC (i := 8) (by kernel_rfl) (by kernel_rfl) ⟨c1, c2, c3, c4⟩ rfl (fun K hK => ?_)
            go_wp2_with fail
            refine (P1 _).mono ?_
            rintro e w5 ⟨rfl, hb5⟩
            have hC5 := CK wr.drew w5 hlx hly hb5 ⟨c1, c2, c3, c4⟩
            have hB5 : Below w.heap.size w w5 := hbw.drew.trans (hb5.mono hbw.size)
            have hS5 := hb5.size
            go_wp2_with fail
            refine consC (i := 17) (by kernel_rfl) (by kernel_rfl) hC5 rfl (fun K hK => ?_)
            go_wp2_with fail
            refine (P2 _).mono ?_
            rintro e w6 ⟨rfl, hb6⟩
            have hC6 := CK w5 w6 (Nat.lt_of_lt_of_le hlx hS5) (Nat.lt_of_lt_of_le hly hS5) hb6 hC5
            have hB6 : Below w.heap.size w w6 := hB5.trans (hb6.mono hB5.size)
            have hB26 : Below w2.heap.size w2 w6 := (hb2w.drew.trans (hb5.mono hb2w.size)).trans (hb6.mono (Nat.le_trans hb2w.size hS5))
            have hG6 : G w6 := hG.below hB6 hg3
            go_wp2_with fail
            refine consC (i := 18) (by kernel_rfl) (by kernel_rfl) hC6 rfl (fun K hK => ?_)
            go_wp2_with fail
            refine lastC (by kernel_rfl) (by kernel_rfl) hC6 (of_decide_eq_true (by kernel_rfl)) ?_
            refine any_seqI [19] [_] _ _ _ rfl (by kernel_rfl) ?_
            go_wp2_with fail
            refine ⟨⟨k + 1, by first | rfl | go_num | simp, by omega, by omega, HJ', hB6, hB26⟩, ?_⟩
            simp [intOf]
            omega
          · have heb : (s == t) = false := beq_eq_false_iff_ne.2 hst
            rw [if_neg hst] at hJ
            have Q1 := fun w1 h => psumG_any s (by omega) w1 h
            have Q2 := fun w1 h => psumG_any t (by omega) w1 h
            by_cases hsm : sumL s = sumL t
            · have HE : Hid (O = some (s, t)) := by rw [unL_some sumL s t hst hsm] at hJ; exact hJ.symm
              obtain ⟨u, hu⟩ : ∃ u, sumL s = u := ⟨_, rfl⟩
              rw [hu] at Q1 hsm
              rw [← hsm] at Q2
              have heu : (u == u) = true := beq_self_eq_true u
              clear hJ hst hsm hu
              go_wp2_with fail
              refine wp_region_any (by kernel_rfl) ?_
              change wpAny _ _ _ _ _ _ _ (World.drew _)
              refine wpAny_take (i := 0) (v := .slice (some ⟨bx, ox, none⟩) dx cx) rfl (by kernel_rfl) (by kernel_rfl) (by kernel_rfl) (fun _ _ _ h => h) (Or.inl ⟨by rfl, fun w => by go_simp⟩) ?_
              refine wpAny_take (i := 1) (v := .slice (some ⟨bx, ox, none⟩) dx cx) rfl (by kernel_rfl) (by kernel_rfl) (by kernel_rfl) (fun _ _ _ h => h) (Or.inl ⟨by rfl, fun w => by go_simp⟩) ?_
              refine wpAny_take (i := 2) (v := .int .i64 dx) rfl (by kernel_rfl) (by kernel_rfl) (by kernel_rfl) (fun _ _ _ h => h) (Or.inl ⟨by rfl, fun w => by go_simp⟩) ?_
              refine wpAny_take (i := 3) (v := .int .i64 ((dx : Int) - 1)) rfl (by kernel_rfl) (by kernel_rfl) (by kernel_rfl) (fun _ _ _ h => h) (Or.inl ⟨by rfl, fun w => by go_simp⟩) ?_
              refine wpAny_take (i := 4) (v := .int .i64 k) rfl (by kernel_rfl) (by kernel_rfl) (by kernel_rfl) (fun _ _ _ h => h) (Or.inl ⟨by rfl, fun w => by go_simp⟩) ?_
              refine wpAny_take (i := 5) (v := .int .i64 i1) rfl (by kernel_rfl) (by kernel_rfl) (by kernel_rfl) (fun _ _ _ h => h) (Or.inl ⟨by rfl, fun w => by go_simp⟩) ?_
              refine wpAny_take (i := 6) (v := .pointer (some ⟨bx, ox + i1 * 2, none⟩)) rfl (by kernel_rfl) (by kernel_rfl) (by kernel_rfl) (fun _ _ _ h => h) (Or.inl ⟨by rfl, fun w => by go_simp⟩) ?_
              refine wpAny_take (i := 9) (v := .slice (some ⟨by', oy, none⟩) dy cy) rfl (by kernel_rfl) (by kernel_rfl) (by kernel_rfl) (fun _ _ _ h => h) (Or.inl ⟨by rfl, fun w => by go_simp⟩) ?_
              refine wpAny_take (i := 10) (v := .slice (some ⟨by', oy, none⟩) dy cy) rfl (by kernel_rfl) (by kernel_rfl) (by kernel_rfl) (fun _ _ _ h => h) (Or.inl ⟨by rfl, fun w => by go_simp⟩) ?_
              refine wpAny_take (i := 11) (v := .int .i64 dy) rfl (by kernel_rfl) (by kernel_rfl) (by kernel_rfl) (fun _ _ _ h => h) (Or.inl ⟨by rfl, fun w => by go_simp⟩) ?_
              refine wpAny_take (i := 12) (v := .int .i64 ((dy : Int) - 1)) rfl (by kernel_rfl) (by kernel_rfl) (by kernel_rfl) (fun _ _ _ h => h) (Or.inl ⟨by rfl, fun w => by go_simp⟩) ?_
              refine wpAny_take (i := 13) (v := .int .i64 k) rfl (by kernel_rfl) (by kernel_rfl) (by kernel_rfl) (fun _ _ _ h => h) (Or.inl ⟨by rfl, fun w => by go_simp⟩) ?_
              refine wpAny_take (i := 14) (v := .int .i64 i2) rfl (by kernel_rfl) (by kernel_rfl) (by kernel_rfl) (fun _ _ _ h => h) (Or.inl ⟨by rfl, fun w => by go_simp⟩) ?_
              refine wpAny_take (i := 15) (v := .pointer (some ⟨by', oy + i2 * 2, none⟩)) rfl (by kernel_rfl) (by kernel_rfl) (by kernel_rfl) (fun _ _ _ h => h) (Or.inl ⟨by rfl, fun w => by go_simp⟩) ?_
              refine any_of_C (C := fun V => V.cell? ⟨bx, ox + i1 * 2, none⟩ = some (.string ⟨x1.toArray⟩) ∧ V.cell? ⟨bx, ox + i1 * 2 + 1, none⟩ = some (.string ⟨x2.toArray⟩) ∧ V.cell? ⟨by', oy + i2 * 2, none⟩ = some (.string ⟨y1.toArray⟩) ∧ V.cell? ⟨by', oy + i2 * 2 + 1, none⟩ = some (.string ⟨y2.toArray⟩)) 19 _ _ _ _ ?_
              refine takeC (i := 7) (v := .agg #[.string ⟨x1.toArray⟩, .string ⟨x2.toArray⟩]) rfl (by kernel_rfl) (by kernel_rfl) (by kernel_rfl) (by kernel_rfl) (by kernel_rfl) (fun _ _ _ h => h) (Or.inl ⟨by rfl, fun V hV => by obtain ⟨g0, g1, g2, g3⟩ := hV; go_simp⟩) ?_
              refine takeC (i := 16) (v := .agg #[.string ⟨y1.toArray⟩, .string ⟨y2.toArray⟩]) rfl (by kernel_rfl) (by kernel_rfl) (by kernel_rfl) (by kernel_rfl) (by kernel_rfl) (fun _ _ _ h => h) (Or.inl ⟨by rfl, fun V hV => by obtain ⟨g0, g1, g2, g3⟩ := hV; go_simp⟩) ?_
              refine consC (i := 8) (by kernel_rfl) (by kernel_rfl) ⟨c1, c2, c3, c4⟩ rfl (fun K hK => ?_)
              go_wp2_with fail
              refine (P1 _).mono ?_
              rintro e w5 ⟨rfl, hb5⟩
              have hC5 := CK wr.drew w5 hlx hly hb5 ⟨c1, c2, c3, c4⟩
              have hB5 : Below w.heap.size w w5 := hbw.drew.trans (hb5.mono hbw.size)
              have hS5 := hb5.size
              go_wp2_with fail
              refine consC (i := 17) (by kernel_rfl) (by kernel_rfl) hC5 rfl (fun K hK => ?_)
              go_wp2_with fail
              refine (P2 _).mono ?_
              rintro e w6 ⟨rfl, hb6⟩
              have hC6 := CK w5 w6 (Nat.lt_of_lt_of_le hlx hS5) (Nat.lt_of_lt_of_le hly hS5) hb6 hC5
              have hB6 : Below w.heap.size w w6 := hB5.trans (hb6.mono hB5.size)
              have hB26 : Below w2.heap.size w2 w6 := (hb2w.drew.trans (hb5.mono hb2w.size)).trans (hb6.mono (Nat.le_trans hb2w.size hS5))
              have hG6 : G w6 := hG.below hB6 hg3
              go_wp2_with fail
              refine consC (i := 18) (by kernel_rfl) (by kernel_rfl) hC6 rfl (fun K hK => ?_)
              go_wp2_with fail
              refine lastC (by kernel_rfl) (by kernel_rfl) hC6 (of_decide_eq_true (by kernel_rfl)) ?_
              refine any_seqI [19] [_] _ _ _ rfl (by kernel_rfl) ?_
              go_wp2_with fail
              refine (Q1 w6 hG6).mono ?_
              rintro e w7 ⟨rfl, hb7⟩
              have hB7 : Below w.heap.size w w7 := hB6.trans (hb7.mono hB6.size)
              go_wp2_with fail
              refine (Q2 w7 (hG.below hB7 hg3)).mono ?_
              rintro e w8 ⟨rfl, hb8⟩
              go_wp2_with fail
              go_ret3
              exact ⟨by rw [HE.out]; rfl, hB7.trans (hb8.mono hB7.size)⟩
            · have HE : Hid (O = none) := by rw [unL_ne sumL s t hsm] at hJ; exact hJ.symm
              have heu : (sumL s == sumL t) = false := beq_eq_false_iff_ne.2 hsm
              obtain ⟨u, hu⟩ : ∃ u, sumL s = u := ⟨_, rfl⟩
              obtain ⟨u2, hu2⟩ : ∃ u, sumL t = u := ⟨_, rfl⟩
              rw [hu] at Q1 heu
              rw [hu2] at Q2 heu
              clear hJ hst hsm hu hu2
              go_wp2_with fail
              refine wp_region_any (by kernel_rfl) ?_
              change wpAny _ _ _ _ _ _ _ (World.drew _)
              refine wpAny_take (i := 0) (v := .slice (some ⟨bx, ox, none⟩) dx cx) rfl (by kernel_rfl) (by kernel_rfl) (by kernel_rfl) (fun _ _ _ h => h) (Or.inl ⟨by rfl, fun w => by go_simp⟩) ?_
              refine wpAny_take (i := 1) (v := .slice (some ⟨bx, ox, none⟩) dx cx) rfl (by kernel_rfl) (by kernel_rfl) (by kernel_rfl) (fun _ _ _ h => h) (Or.inl ⟨by rfl, fun w => by go_simp⟩) ?_
              refine wpAny_take (i := 2) (v := .int .i64 dx) rfl (by kernel_rfl) (by kernel_rfl) (by kernel_rfl) (fun _ _ _ h => h) (Or.inl ⟨by rfl, fun w => by go_simp⟩) ?_
              refine wpAny_take (i := 3) (v := .int .i64 ((dx : Int) - 1)) rfl (by kernel_rfl) (by kernel_rfl) (by kernel_rfl) (fun _ _ _ h => h) (Or.inl ⟨by rfl, fun w => by go_simp⟩) ?_
              refine wpAny_take (i := 4) (v := .int .i64 k) rfl (by kernel_rfl) (by kernel_rfl) (by kernel_rfl) (fun _ _ _ h => h) (Or.inl ⟨by rfl, fun w => by go_simp⟩) ?_
              refine wpAny_take (i := 5) (v := .int .i64 i1) rfl (by kernel_rfl) (by kernel_rfl) (by kernel_rfl) (fun _ _ _ h => h) (Or.inl ⟨by rfl, fun w => by go_simp⟩) ?_
              refine wpAny_take (i := 6) (v := .pointer (some ⟨bx, ox + i1 * 2, none⟩)) rfl (by kernel_rfl) (by kernel_rfl) (by kernel_rfl) (fun _ _ _ h => h) (Or.inl ⟨by rfl, fun w => by go_simp⟩) ?_
              refine wpAny_take (i := 9) (v := .slice (some ⟨by', oy, none⟩) dy cy) rfl (by kernel_rfl) (by kernel_rfl) (by kernel_rfl) (fun _ _ _ h => h) (Or.inl ⟨by rfl, fun w => by go_simp⟩) ?_
              refine wpAny_take (i := 10) (v := .slice (some ⟨by', oy, none⟩) dy cy) rfl (by kernel_rfl) (by kernel_rfl) (by kernel_rfl) (fun _ _ _ h => h) (Or.inl ⟨by rfl, fun w => by go_simp⟩) ?_
              refine wpAny_take (i := 11) (v := .int .i64 dy) rfl (by kernel_rfl) (by kernel_rfl) (by kernel_rfl) (fun _ _ _ h => h) (Or.inl ⟨by rfl, fun w => by go_simp⟩) ?_
              refine wpAny_take (i := 12) (v := .int .i64 ((dy : Int) - 1)) rfl (by kernel_rfl) (by kernel_rfl) (by kernel_rfl) (fun _ _ _ h => h) (Or.inl ⟨by rfl, fun w => by go_simp⟩) ?_
              refine wpAny_take (i := 13) (v := .int .i64 k) rfl (by kernel_rfl) (by kernel_rfl) (by kernel_rfl) (fun _ _ _ h => h) (Or.inl ⟨by rfl, fun w => by go_simp⟩) ?_
              refine wpAny_take (i := 14) (v := .int .i64 i2) rfl (by kernel_rfl) (by kernel_rfl) (by kernel_rfl) (fun _ _ _ h => h) (Or.inl ⟨by rfl, fun w => by go_simp⟩) ?_
              refine wpAny_take (i := 15) (v := .pointer (some ⟨by', oy + i2 * 2, none⟩)) rfl (by kernel_rfl) (by kernel_rfl) (by kernel_rfl) (fun _ _ _ h => h) (Or.inl ⟨by rfl, fun w => by go_simp⟩) ?_
              refine any_of_C (C := fun V => V.cell? ⟨bx, ox + i1 * 2, none⟩ = some (.string ⟨x1.toArray⟩) ∧ V.cell? ⟨bx, ox + i1 * 2 + 1, none⟩ = some (.string ⟨x2.toArray⟩) ∧ V.cell? ⟨by', oy + i2 * 2, none⟩ = some (.string ⟨y1.toArray⟩) ∧ V.cell? ⟨by', oy + i2 * 2 + 1, none⟩ = some (.string ⟨y2.toArray⟩)) 19 _ _ _ _ ?_
              refine takeC (i := 7) (v := .agg #[.string ⟨x1.toArray⟩, .string ⟨x2.toArray⟩]) rfl (by kernel_rfl) (by kernel_rfl) (by kernel_rfl) (by kernel_rfl) (by kernel_rfl) (fun _ _ _ h => h) (Or.inl ⟨by rfl, fun V hV => by obtain ⟨g0, g1, g2, g3⟩ := hV; go_simp⟩) ?_
              refine takeC (i := 16) (v := .agg #[.string ⟨y1.toArray⟩, .string ⟨y2.toArray⟩]) rfl (by kernel_rfl) (by kernel_rfl) (by kernel_rfl) (by kernel_rfl) (by kernel_rfl) (fun _ _ _ h => h) (Or.inl ⟨by rfl, fun V hV => by obtain ⟨g0, g1, g2, g3⟩ := hV; go_simp⟩) ?_
              refine consC (i := 8) (by kernel_rfl) (by kernel_rfl) ⟨c1, c2, c3, c4⟩ rfl (fun K hK => ?_)
              go_wp2_with fail
              refine (P1 _).mono ?_
              rintro e w5 ⟨rfl, hb5⟩
              have hC5 := CK wr.drew w5 hlx hly hb5 ⟨c1, c2, c3, c4⟩
              have hB5 : Below w.heap.size w w5 := hbw.drew.trans (hb5.mono hbw.size)
              have hS5 := hb5.size
              go_wp2_with fail
              refine consC (i := 17) (by kernel_rfl) (by kernel_rfl) hC5 rfl (fun K hK => ?_)
              go_wp2_with fail
              refine (P2 _).mono ?_
              rintro e w6 ⟨rfl, hb6⟩
              have hC6 := CK w5 w6 (Nat.lt_of_lt_of_le hlx hS5) (Nat.lt_of_lt_of_le hly hS5) hb6 hC5
              have hB6 : Below w.heap.size w w6 := hB5.trans (hb6.mono hB5.size)
              have hB26 : Below w2.heap.size w2 w6 := (hb2w.drew.trans (hb5.mono hb2w.size)).trans (hb6.mono (Nat.le_trans hb2w.size hS5))
              have hG6 : G w6 := hG.below hB6 hg3
              go_wp2_with fail
              refine consC (i := 18) (by kernel_rfl) (by kernel_rfl) hC6 rfl (fun K hK => ?_)
              go_wp2_with fail
              refine lastC (by kernel_rfl) (by kernel_rfl) hC6 (of_decide_eq_true (by kernel_rfl)) ?_
              refine any_seqI [19] [_] _ _ _ rfl (by kernel_rfl) ?_
              go_wp2_with fail
              refine (Q1 w6 hG6).mono ?_
              rintro e w7 ⟨rfl, hb7⟩
              have hB7 : Below w.heap.size w w7 := hB6.trans (hb7.mono hB6.size)
              go_wp2_with fail
              refine (Q2 w7 (hG.below hB7 hg3)).mono ?_
              rintro e w8 ⟨rfl, hb8⟩
              go_wp2_with fail
              go_ret3
              exact ⟨by rw [HE.out]; rfl, hB7.trans (hb8.mono hB7.size)⟩
        · have HE : Hid (O = none) := by
            have hJ := HJ.out
            have lX : ((insC X).reverse.drop k).length = dx - k := by rw [List.length_drop, List.length_reverse, insC_len, HDX.out]
            have lY : ((insC Y).reverse.drop k).length = dy - k := by rw [List.length_drop, List.length_reverse, insC_len, HDY.out]
            show O = none
            rw [← hJ]
            by_cases h0 : dx - k = 0
            · rw [List.length_eq_zero_iff.1 (lX.trans h0)]; cases (insC Y).reverse.drop k <;> rfl
            · rw [List.length_eq_zero_iff.1 (lY.trans (by omega))]; cases (insC X).reverse.drop k <;> rfl
          clear HJ
          first
            | (have j : ¬ (k : Int) < (dy : Int) := by omega
               go_wp2_with fail
               go_ret3
               exact ⟨by rw [HE.out]; rfl, hbw⟩)
            | (have j : ¬ (k : Int) < (dx : Int) := by omega
               go_wp2_with fail
               go_ret3
               exact ⟨by rw [HE.out]; rfl, hbw⟩))
set_option maxHeartbeats 400000 in
theorem pdif_any (A B : List (List UInt8)) (va vb : Value) (w : World) (hG : G w) (hA : IsTxt w va A) (hB : IsTxt w vb B) (hla : A.length ≤ 1000000) (hlb : B.length ≤ 1000000) :
    Calls Tryd.prog 22 #[va, vb] w fun e w' => e = .returned (unV (chDifL sumL A B)) ∧ Below w.heap.size w w' := by
  have h := pdifF_any A B va vb w hG hA hB hla hlb
  obtain ⟨R, hR⟩ : ∃ R, chDifL sumL A B = R := ⟨_, rfl⟩
  rw [hR] at h ⊢
  clear hR hA hB
  rcases R with _ | ⟨x, y⟩
  · change Calls _ _ _ _ fun e w' => e = .returned (.tuple #[.string ⟨#[]⟩, .string ⟨#[]⟩, .bool false]) ∧ Below w.heap.size w w' at h
    go_enter Tryd.func22, Tryd.ntmps22
    go_wp2_with fail
    refine h.mono ?_
    rintro e w1 ⟨rfl, hb1⟩
    go_wp2_with fail
    go_ret3
    exact ⟨rfl, hb1⟩
  · change Calls _ _ _ _ fun e w' => e = .returned (.tuple #[.string ⟨x.toArray⟩, .string ⟨y.toArray⟩, .bool true]) ∧ Below w.heap.size w w' at h
    go_enter Tryd.func22, Tryd.ntmps22
    go_wp2_with fail
    refine h.mono ?_
    rintro e w1 ⟨rfl, hb1⟩
    go_wp2_with fail
    go_ret3
    exact ⟨rfl, hb1⟩
end Go.Proofs.YtgickejfcmnaiaaDoor
