/-
  The walk of RedactBegins.
-/
import Derived.Test.YtihggfkenhkglaaDoorZShown7
import Derived.Test.YtihggfkenhkglaaDoorGA
import Derived.Test.YtihggfkenhkglaaDoorZR6Same
import Derived.Deep.RegionHeld3
import Derived.BigQuiet
import Derived.Deep.QuietTactic
namespace Go.Proofs.YtihggfkenhkglaaDoor
set_option maxRecDepth 100000
open Go.RowKit
set_option linter.unusedVariables false
attribute [local go_sem] ba_size ba_append ba_get ba_extract
set_option maxHeartbeats 4000000 in
theorem begins7_walk (CS : P7S) (w : World) (vh : Value) (h : List Ev) (Th : IsEvs w vh h) (Gh : ∀ x ∈ h, goodE x) (n : Int) :
    Calls Tryd.prog 9 #[vh, .int .i64 n] w fun e w' => e = .returned (.bool true) ∧ Below w.heap.size w w' := by
  have HSh : Hid (∀ W, Below w.heap.size w W → Calls Tryd.prog 10 #[] W fun e w' => e = .returned (.bool true) ∧ Below W.heap.size W w') := fun W h => shown7_any CS W
  have HF : Hid (∀ W, Below w.heap.size w W → Calls Tryd.prog 17 #[vh] W fun e w' => e = .returned (.bool (decide (h.length ≤ 60))) ∧ Below W.heap.size W w') := fun W hb => few_any vh h W (Th.below hb)
  by_cases h1 : h.length ≤ 60
  · rw [decide_eq_true h1] at HF
    have HS : Hid (∀ W, Below w.heap.size w W → Calls Tryd.prog 21 #[vh] W fun e w' => EvRow 23 W (shapeL h) e w') := fun W hb => CS.shape h vh W (Th.below hb) (by omega) (fun x hx => by have := Gh x hx; unfold goodE at this; omega)
    have SE : Hid (∀ (L : List Ev) v1 v2 W, IsEvs W v1 L → IsEvs W v2 L → Calls Tryd.prog 20 #[v1, v2] W fun e w' => e = .returned (.bool true) ∧ Below W.heap.size W w') := fun L v1 v2 W h1 h2 => by have := rsame6_any v1 v2 L L W h1 h2; rw [decide_eq_true rfl] at this; exact this
    have b3 : (shapeL h).length ≤ 60 := by rw [shape_len]; exact h1
    by_cases i1 : n < 0
    · obtain ⟨ah, ch, rfl, ih, jh, _, HCh⟩ := Th.some_at
      go_enter Tryd.func9, Tryd.ntmps9
      go_wp2_with fail
      refine (HSh.out _ (Below.refl w.heap.size w)).mono ?_
      rintro e w1 ⟨rfl, b1⟩
      have B1 := bel_trans (Below.refl w.heap.size w) b1
      go_wp2_with fail
      refine (HF.out _ B1).mono ?_
      rintro e w2 ⟨rfl, b2⟩
      have B2 := bel_trans B1 b2
      go_wp2_with fail
      go_ret
      exact ⟨rfl, B2⟩
    · by_cases i2 : (h.length : Int) < n
      · obtain ⟨ah, ch, rfl, ih, jh, _, HCh⟩ := Th.some_at
        go_enter Tryd.func9, Tryd.ntmps9
        go_wp2_with fail
        refine (HSh.out _ (Below.refl w.heap.size w)).mono ?_
        rintro e w1 ⟨rfl, b1⟩
        have B1 := bel_trans (Below.refl w.heap.size w) b1
        go_wp2_with fail
        refine (HF.out _ B1).mono ?_
        rintro e w2 ⟨rfl, b2⟩
        have B2 := bel_trans B1 b2
        go_wp2_with fail
        go_ret
        exact ⟨rfl, B2⟩
      · obtain ⟨q, rfl⟩ : ∃ q : Nat, n = (q : Int) := ⟨n.toNat, by omega⟩
        have hq : q ≤ h.length := by omega
        have hT := shape_take h q hq
        have HSq : Hid (∀ v W, Below w.heap.size w W → IsEvs W v (h.take q) → Calls Tryd.prog 21 #[v] W fun e w' => EvRow 23 W ((shapeL h).take q) e w') := fun v W _ hv => by
          rw [← hT]
          exact CS.shape (h.take q) v W hv (by rw [List.length_take]; omega) (fun x hx => by have := Gh x (List.mem_of_mem_take hx); unfold goodE at this; omega)
        have eL : ((((shapeL h).length : Int)) != (h.length : Int)) = false := by rw [shape_len]; simp
        have HL : Hid ((shapeL h).length = h.length) := shape_len h
        obtain ⟨Y, hY⟩ : ∃ y, shapeL h = y := ⟨_, rfl⟩
        rw [hY] at HS b3 HSq eL HL
        clear hY hT
        obtain ⟨ah, ch, rfl, ih, jh, _, HCh⟩ := Th.some_at
        go_enter Tryd.func9, Tryd.ntmps9
        go_wp2_with fail
        refine (HSh.out _ (Below.refl w.heap.size w)).mono ?_
        rintro e w1 ⟨rfl, b1⟩
        have B1 := bel_trans (Below.refl w.heap.size w) b1
        go_wp2_with fail
        refine (HF.out _ B1).mono ?_
        rintro e w2 ⟨rfl, b2⟩
        have B2 := bel_trans B1 b2
        go_wp2_with fail
        refine (HS.out _ B2).mono ?_
        rintro e w3 hres3
        obtain ⟨u_p, rfl, b3, o_p⟩ := hres3
        have B3 := bel_trans B2 b3
        have T_p : IsEvs w3 u_p Y := IsRec.own evV_len (by omega) o_p (by show Y.length ≤ _; omega)
        obtain ⟨a_p, c_p, rfl, i_p, j_p, _, HC_p⟩ := T_p.some_at
        have hqY : q ≤ Y.length := by have := HL.out; omega
        have q1 : (0 : Int) ≤ (q : Int) := by omega
        have q2 : q ≤ ch := by omega
        have q3 : q ≤ c_p := by omega
        have Tq : IsEvs w3 (.slice ah q ch) (h.take q) := (Th.below B3).take q hq
        have Tp : IsEvs w3 (.slice a_p q c_p) (Y.take q) := T_p.take q hqY
        go_wp2_with fail
        refine wp_region_any (by kernel_rfl) ?_
        change wpAny _ _ _ _ _ _ _ (World.drew _)
        refine wpAny_take (i := 0) (v := (.slice ah h.length ch)) rfl (by kernel_rfl) (by kernel_rfl) (by kernel_rfl) (fun _ _ _ h => h) (Or.inl ⟨by kernel_rfl, fun w => by go_simp⟩) ?_
        refine wpAny_take (i := 1) (v := (.int .i64 (q : Int))) rfl (by kernel_rfl) (by kernel_rfl) (by kernel_rfl) (fun _ _ _ h => h) (Or.inl ⟨by kernel_rfl, fun w => by go_simp⟩) ?_
        refine wpAny_take (i := 2) (v := (.slice ah q ch)) rfl (by kernel_rfl) (by kernel_rfl) (by kernel_rfl) (fun _ _ _ h => h) (Or.inl ⟨by kernel_rfl, fun w => by go_simp⟩) ?_
        refine wpAny_take (i := 4) (v := (.slice a_p Y.length c_p)) rfl (by kernel_rfl) (by kernel_rfl) (by kernel_rfl) (fun _ _ _ h => h) (Or.inl ⟨by kernel_rfl, fun w => by go_simp⟩) ?_
        refine wpAny_take (i := 5) (v := (.int .i64 (q : Int))) rfl (by kernel_rfl) (by kernel_rfl) (by kernel_rfl) (fun _ _ _ h => h) (Or.inl ⟨by kernel_rfl, fun w => by go_simp⟩) ?_
        refine wpAny_take (i := 6) (v := (.slice a_p q c_p)) rfl (by kernel_rfl) (by kernel_rfl) (by kernel_rfl) (fun _ _ _ h => h) (Or.inl ⟨by kernel_rfl, fun w => by go_simp⟩) ?_
        refine any_seqI [3, 7, 8] [_, _, _] _ _ _ rfl (by kernel_rfl) ?_
        go_wp2_with fail
        refine (HSq.out _ _ B3.drew (Tq.below (Below.refl _ _).drew)).mono ?_
        rintro e w4 hres4
        obtain ⟨u_q, rfl, b4, o_q⟩ := hres4
        have B4 := bel_trans B3.drew b4
        have T_q : IsEvs w4 u_q (Y.take q) := IsRec.own evV_len (by omega) o_q (by show (Y.take q).length ≤ _; rw [List.length_take]; omega)
        have T_r : IsEvs w4 (.slice a_p q c_p) (Y.take q) := Tp.below (bel_trans (Below.refl _ _).drew b4)
        go_wp2_with fail
        refine (SE.out _ _ _ _ T_q T_r).mono ?_
        rintro e w5 ⟨rfl, b5⟩
        go_wp2_with fail
        go_ret
        exact ⟨rfl, bel_trans B4 b5⟩
  · rw [decide_eq_false h1] at HF
    obtain ⟨ah, ch, rfl, ih, jh, _, HCh⟩ := Th.some_at
    go_enter Tryd.func9, Tryd.ntmps9
    go_wp2_with fail
    refine (HSh.out _ (Below.refl w.heap.size w)).mono ?_
    rintro e w1 ⟨rfl, b1⟩
    have B1 := bel_trans (Below.refl w.heap.size w) b1
    go_wp2_with fail
    refine (HF.out _ B1).mono ?_
    rintro e w2 ⟨rfl, b2⟩
    have B2 := bel_trans B1 b2
    go_wp2_with fail
    go_ret
    exact ⟨rfl, B2⟩
end Go.Proofs.YtihggfkenhkglaaDoor
