/-
  The walk of EdgesTell.
-/
import Derived.Test.YteehpkkkagdckaaZShown10
import Derived.Test.YteehpkkkagdckaaZEdges10
import Derived.Test.YteehpkkkagdckaaZR10All
import Derived.Test.YteehpkkkagdckaaZR10Nodes
import Derived.Test.YteehpkkkagdckaaGH
import Derived.Test.YteehpkkkagdckaaZR10Same
import Derived.Test.YteehpkkkagdckaaZR8Ints
import Derived.Deep.RegionHeld3
import Derived.BigQuiet
import Derived.Deep.QuietTactic
import Derived.Lib.Hide
namespace Go.Proofs.Yteehpkkkagdckaa
set_option maxRecDepth 100000
open Go.RowKit
set_option linter.unusedVariables false
attribute [local go_sem] ba_size ba_append ba_get ba_extract
set_option maxHeartbeats 4000000 in
theorem tell10_walk (C : P10C) (w : World) (vh : Value) (h : List Ev) (Th : IsEvs w vh h) (Gh : ∀ x ∈ h, goodE x) (k f t I J : Int) (ge : goodEd (k, f, t, I, J)) :
    Calls Try.prog 3 #[vh, .agg #[.int .i64 k, .int .i64 f, .int .i64 t, .int .i64 I, .int .i64 J]] w fun e w' => e = .returned (.bool true) ∧ Below w.heap.size w w' := by
  have HSh : Hid (∀ W, Below w.heap.size w W → Calls Try.prog 10 #[] W fun e w' => e = .returned (.bool true) ∧ Below W.heap.size W w') := fun W h => shown10_any C W
  have HF : Hid (∀ W, Below w.heap.size w W → Calls Try.prog 11 #[vh] W fun e w' => e = .returned (.bool (decide (fewH h))) ∧ Below W.heap.size W w') := fun W hb => few10_any vh h W (Th.below hb)
  by_cases h1 : fewH h
  · rw [decide_eq_true h1] at HF
    have hn3 : h.length ≤ 300 := by have := h1.2; omega
    have HA : Hid (∀ W, Below w.heap.size w W → Calls Try.prog 13 #[vh] W fun e w' => EdRow 24 W (edgesL h) e w') := fun W hb => C.all h vh W (Th.below hb) Gh hn3
    have RA : Hid (∀ W, Below w.heap.size w W → Calls Try.prog 14 #[vh] W fun e w' => EdRow 24 W (edgesL h) e w') := fun W hb => rall10_any h vh W (Th.below hb) hn3 (fun x hx => by have := Gh x hx; unfold goodE at this; omega)
    have HN : Hid (∀ W, Below w.heap.size w W → Calls Try.prog 16 #[vh] W fun e w' => InRow W (nodeL h) e w') := fun W hb => C.nodes h vh W (Th.below hb) Gh h1
    have RN : Hid (∀ W, Below w.heap.size w W → Calls Try.prog 17 #[vh] W fun e w' => InRow W (nodeL h) e w') := fun W hb => rnodes_any h vh W (Th.below hb)
    have HO : Hid (∀ W, Below w.heap.size w W → Calls Try.prog 18 #[vh, .agg #[.int .i64 k, .int .i64 f, .int .i64 t, .int .i64 I, .int .i64 J]] W fun e w' => e = .returned (.bool (holdsC h (k, f, t, I, J))) ∧ Below W.heap.size W w') := fun W hb => C.holds h vh W k f t I J (Th.below hb) Gh hn3 ge
    have RO : Hid (∀ W, Below w.heap.size w W → Calls Try.prog 19 #[vh, .agg #[.int .i64 k, .int .i64 f, .int .i64 t, .int .i64 I, .int .i64 J]] W fun e w' => e = .returned (.bool (holdsC h (k, f, t, I, J))) ∧ Below W.heap.size W w') := fun W hb => rholds_any h vh W (Th.below hb) k f t I J
    have SE : Hid (∀ (L : List Ed) v1 v2 W, IsEds W v1 L → IsEds W v2 L → Calls Try.prog 12 #[v1, v2] W fun e w' => e = .returned (.bool true) ∧ Below W.heap.size W w') := fun L v1 v2 W h1 h2 => by have := rsamee_any v1 v2 L L W h1 h2; rw [decide_eq_true rfl] at this; exact this
    have SI : Hid (∀ (L : List Int) v1 v2 W, IsInts W v1 L → IsInts W v2 L → Calls Try.prog 15 #[v1, v2] W fun e w' => e = .returned (.bool true) ∧ Below W.heap.size W w') := fun L v1 v2 W h1 h2 => by have := rints_any v1 v2 L L W h1 h2; rw [decide_eq_true rfl] at this; exact this
    have bE := edges_few h hn3
    have bN := node_few h
    obtain ⟨EE, hEE⟩ : ∃ y, edgesL h = y := ⟨_, rfl⟩
    rw [hEE] at HA RA bE
    obtain ⟨NN, hNN⟩ : ∃ y, nodeL h = y := ⟨_, rfl⟩
    rw [hNN] at HN RN bN
    obtain ⟨o, ho⟩ : ∃ y, holdsC h (k, f, t, I, J) = y := ⟨_, rfl⟩
    rw [ho] at HO RO
    clear hEE hNN ho
    have e_o : (o == o) = true := beq_self_eq_true o
    obtain ⟨ah, ch, rfl, ih, jh, kh, HCh⟩ := Th.reads
    have X_e := SBox.new w 24 #[.int .i64 k, .int .i64 f, .int .i64 t, .int .i64 I, .int .i64 J]
    have B_e := Below.alloc (Below.refl w.heap.size w) (Below.size (Below.refl w.heap.size w)) (.cells #[.int .i64 k, .int .i64 f, .int .i64 t, .int .i64 I, .int .i64 J] 24)
    go_enter Try.func3, Try.ntmps3
    have f_e0_0 := X_e.cell 0 _ rfl
    have f_e1_0 := X_e.cell 1 _ rfl
    have f_e2_0 := X_e.cell 2 _ rfl
    have f_e3_0 := X_e.cell 3 _ rfl
    have f_e4_0 := X_e.cell 4 _ rfl
    go_wp2_with fail
    refine (HSh.out _ B_e).mono ?_
    rintro e w1 ⟨rfl, b1⟩
    have B1 := bel_trans B_e b1
    clear f_e0_0 f_e1_0 f_e2_0 f_e3_0 f_e4_0
    replace X_e := X_e.below b1
    have f_e0_1 := X_e.cell 0 _ rfl
    have f_e1_1 := X_e.cell 1 _ rfl
    have f_e2_1 := X_e.cell 2 _ rfl
    have f_e3_1 := X_e.cell 3 _ rfl
    have f_e4_1 := X_e.cell 4 _ rfl
    go_wp2_with fail
    refine (HF.out _ B1).mono ?_
    rintro e w2 ⟨rfl, b2⟩
    have B2 := bel_trans B1 b2
    clear f_e0_1 f_e1_1 f_e2_1 f_e3_1 f_e4_1
    replace X_e := X_e.below b2
    have f_e0_2 := X_e.cell 0 _ rfl
    have f_e1_2 := X_e.cell 1 _ rfl
    have f_e2_2 := X_e.cell 2 _ rfl
    have f_e3_2 := X_e.cell 3 _ rfl
    have f_e4_2 := X_e.cell 4 _ rfl
    go_wp2_with fail
    refine (HA.out _ B2).mono ?_
    rintro e w3 hres3
    obtain ⟨u_p, rfl, b3, o_p⟩ := hres3
    have B3 := bel_trans B2 b3
    clear f_e0_2 f_e1_2 f_e2_2 f_e3_2 f_e4_2
    replace X_e := X_e.below b3
    have T_p := IsRec.own (L := EE) edV_len (by omega) o_p (by omega)
    obtain ⟨a_p, c_p, rfl, i_p, j_p, _, HC_p⟩ := T_p.some_at
    have f_e0_3 := X_e.cell 0 _ rfl
    have f_e1_3 := X_e.cell 1 _ rfl
    have f_e2_3 := X_e.cell 2 _ rfl
    have f_e3_3 := X_e.cell 3 _ rfl
    have f_e4_3 := X_e.cell 4 _ rfl
    go_wp2_with fail
    refine (RA.out _ B3).mono ?_
    rintro e w4 hres4
    obtain ⟨u_q, rfl, b4, o_q⟩ := hres4
    have B4 := bel_trans B3 b4
    clear f_e0_3 f_e1_3 f_e2_3 f_e3_3 f_e4_3
    replace X_e := X_e.below b4
    replace T_p := T_p.below b4
    have T_q := IsRec.own (L := EE) edV_len (by omega) o_q (by omega)
    obtain ⟨a_q, c_q, rfl, i_q, j_q, _, HC_q⟩ := T_q.some_at
    have f_e0_4 := X_e.cell 0 _ rfl
    have f_e1_4 := X_e.cell 1 _ rfl
    have f_e2_4 := X_e.cell 2 _ rfl
    have f_e3_4 := X_e.cell 3 _ rfl
    have f_e4_4 := X_e.cell 4 _ rfl
    go_wp2_with fail
    refine (SE.out _ _ _ _ T_p T_q).mono ?_
    rintro e w5 ⟨rfl, b5⟩
    have B5 := bel_trans B4 b5
    clear f_e0_4 f_e1_4 f_e2_4 f_e3_4 f_e4_4
    replace X_e := X_e.below b5
    replace T_p := T_p.below b5
    replace T_q := T_q.below b5
    have f_e0_5 := X_e.cell 0 _ rfl
    have f_e1_5 := X_e.cell 1 _ rfl
    have f_e2_5 := X_e.cell 2 _ rfl
    have f_e3_5 := X_e.cell 3 _ rfl
    have f_e4_5 := X_e.cell 4 _ rfl
    go_wp2_with fail
    refine (HN.out _ B5).mono ?_
    rintro e w6 hres6
    obtain ⟨u_r, rfl, b6, o_r⟩ := hres6
    have B6 := bel_trans B5 b6
    clear f_e0_5 f_e1_5 f_e2_5 f_e3_5 f_e4_5
    replace X_e := X_e.below b6
    replace T_p := T_p.below b6
    replace T_q := T_q.below b6
    have T_r := IsRec.own (L := NN) intV_len (by omega) o_r (by omega)
    obtain ⟨a_r, c_r, rfl, i_r, j_r, _, HC_r⟩ := T_r.some_at
    have f_e0_6 := X_e.cell 0 _ rfl
    have f_e1_6 := X_e.cell 1 _ rfl
    have f_e2_6 := X_e.cell 2 _ rfl
    have f_e3_6 := X_e.cell 3 _ rfl
    have f_e4_6 := X_e.cell 4 _ rfl
    go_wp2_with fail
    refine (RN.out _ B6).mono ?_
    rintro e w7 hres7
    obtain ⟨u_s, rfl, b7, o_s⟩ := hres7
    have B7 := bel_trans B6 b7
    clear f_e0_6 f_e1_6 f_e2_6 f_e3_6 f_e4_6
    replace X_e := X_e.below b7
    replace T_p := T_p.below b7
    replace T_q := T_q.below b7
    replace T_r := T_r.below b7
    have T_s := IsRec.own (L := NN) intV_len (by omega) o_s (by omega)
    obtain ⟨a_s, c_s, rfl, i_s, j_s, _, HC_s⟩ := T_s.some_at
    have f_e0_7 := X_e.cell 0 _ rfl
    have f_e1_7 := X_e.cell 1 _ rfl
    have f_e2_7 := X_e.cell 2 _ rfl
    have f_e3_7 := X_e.cell 3 _ rfl
    have f_e4_7 := X_e.cell 4 _ rfl
    go_wp2_with fail
    refine (SI.out _ _ _ _ T_r T_s).mono ?_
    rintro e w8 ⟨rfl, b8⟩
    have B8 := bel_trans B7 b8
    clear f_e0_7 f_e1_7 f_e2_7 f_e3_7 f_e4_7
    replace X_e := X_e.below b8
    replace T_p := T_p.below b8
    replace T_q := T_q.below b8
    replace T_r := T_r.below b8
    replace T_s := T_s.below b8
    have f_e0_8 := X_e.cell 0 _ rfl
    have f_e1_8 := X_e.cell 1 _ rfl
    have f_e2_8 := X_e.cell 2 _ rfl
    have f_e3_8 := X_e.cell 3 _ rfl
    have f_e4_8 := X_e.cell 4 _ rfl
    have S0 : (fun V => Below w.heap.size w V ∧ V.cell? ⟨w.heap.size, 0, none⟩ = some (.int .i64 k) ∧ V.cell? ⟨w.heap.size, 1, none⟩ = some (.int .i64 f) ∧ V.cell? ⟨w.heap.size, 2, none⟩ = some (.int .i64 t) ∧ V.cell? ⟨w.heap.size, 3, none⟩ = some (.int .i64 I) ∧ V.cell? ⟨w.heap.size, 4, none⟩ = some (.int .i64 J)) (w8).drew := ⟨B8.drew, f_e0_8, f_e1_8, f_e2_8, f_e3_8, f_e4_8⟩
    have keepS : ∀ V V' : World, (fun V => Below w.heap.size w V ∧ V.cell? ⟨w.heap.size, 0, none⟩ = some (.int .i64 k) ∧ V.cell? ⟨w.heap.size, 1, none⟩ = some (.int .i64 f) ∧ V.cell? ⟨w.heap.size, 2, none⟩ = some (.int .i64 t) ∧ V.cell? ⟨w.heap.size, 3, none⟩ = some (.int .i64 I) ∧ V.cell? ⟨w.heap.size, 4, none⟩ = some (.int .i64 J)) V → Below V.heap.size V V' → (fun V => Below w.heap.size w V ∧ V.cell? ⟨w.heap.size, 0, none⟩ = some (.int .i64 k) ∧ V.cell? ⟨w.heap.size, 1, none⟩ = some (.int .i64 f) ∧ V.cell? ⟨w.heap.size, 2, none⟩ = some (.int .i64 t) ∧ V.cell? ⟨w.heap.size, 3, none⟩ = some (.int .i64 I) ∧ V.cell? ⟨w.heap.size, 4, none⟩ = some (.int .i64 J)) V' := fun V V' ⟨h, a0, a1, a2, a3, a4⟩ b => ⟨bel_trans h b, cell_bel b a0, cell_bel b a1, cell_bel b a2, cell_bel b a3, cell_bel b a4⟩
    go_wp2_with fail
    go_region_held3 (fun V => Below w.heap.size w V ∧ V.cell? ⟨w.heap.size, 0, none⟩ = some (.int .i64 k) ∧ V.cell? ⟨w.heap.size, 1, none⟩ = some (.int .i64 f) ∧ V.cell? ⟨w.heap.size, 2, none⟩ = some (.int .i64 t) ∧ V.cell? ⟨w.heap.size, 3, none⟩ = some (.int .i64 I) ∧ V.cell? ⟨w.heap.size, 4, none⟩ = some (.int .i64 J)) (first | exact S0 | exact keepS _ _ (by assumption) (by assumption)) (first | (go_at_call 18; refine (HO.out _ (And.left (by assumption))).mono ?_; rintro e w' ⟨rfl, bb⟩) | (go_at_call 19; refine (RO.out _ (And.left (by assumption))).mono ?_; rintro e w' ⟨rfl, bb⟩))
    go_wp2_with fail
    go_ret
    exact ⟨rfl, And.left (by assumption)⟩
  · rw [decide_eq_false h1] at HF
    obtain ⟨ah, ch, rfl, ih, jh, kh, HCh⟩ := Th.reads
    have X_e := SBox.new w 24 #[.int .i64 k, .int .i64 f, .int .i64 t, .int .i64 I, .int .i64 J]
    have B_e := Below.alloc (Below.refl w.heap.size w) (Below.size (Below.refl w.heap.size w)) (.cells #[.int .i64 k, .int .i64 f, .int .i64 t, .int .i64 I, .int .i64 J] 24)
    go_enter Try.func3, Try.ntmps3
    have f_e0_0 := X_e.cell 0 _ rfl
    have f_e1_0 := X_e.cell 1 _ rfl
    have f_e2_0 := X_e.cell 2 _ rfl
    have f_e3_0 := X_e.cell 3 _ rfl
    have f_e4_0 := X_e.cell 4 _ rfl
    go_wp2_with fail
    refine (HSh.out _ B_e).mono ?_
    rintro e w1 ⟨rfl, b1⟩
    have B1 := bel_trans B_e b1
    clear f_e0_0 f_e1_0 f_e2_0 f_e3_0 f_e4_0
    replace X_e := X_e.below b1
    have f_e0_1 := X_e.cell 0 _ rfl
    have f_e1_1 := X_e.cell 1 _ rfl
    have f_e2_1 := X_e.cell 2 _ rfl
    have f_e3_1 := X_e.cell 3 _ rfl
    have f_e4_1 := X_e.cell 4 _ rfl
    go_wp2_with fail
    refine (HF.out _ B1).mono ?_
    rintro e w2 ⟨rfl, b2⟩
    have B2 := bel_trans B1 b2
    clear f_e0_1 f_e1_1 f_e2_1 f_e3_1 f_e4_1
    replace X_e := X_e.below b2
    have f_e0_2 := X_e.cell 0 _ rfl
    have f_e1_2 := X_e.cell 1 _ rfl
    have f_e2_2 := X_e.cell 2 _ rfl
    have f_e3_2 := X_e.cell 3 _ rfl
    have f_e4_2 := X_e.cell 4 _ rfl
    go_wp2_with fail
    go_ret
    exact ⟨rfl, B2⟩
end Go.Proofs.Yteehpkkkagdckaa
