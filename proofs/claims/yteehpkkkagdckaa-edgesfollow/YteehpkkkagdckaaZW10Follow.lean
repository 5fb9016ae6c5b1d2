/-
  The walk of EdgesFollow.
-/
import Derived.Test.YteehpkkkagdckaaZShown10
import Derived.Test.YteehpkkkagdckaaZEdges10
import Derived.Test.YteehpkkkagdckaaZEdges10b
import Derived.Test.YteehpkkkagdckaaZEdges10c
import Derived.Test.YteehpkkkagdckaaZReach10
import Derived.Test.YteehpkkkagdckaaGR
import Derived.Test.YteehpkkkagdckaaZR8Formed
import Derived.Test.YteehpkkkagdckaaZBads9
import Derived.Deep.RegionHeld3
import Derived.BigQuiet
import Derived.Deep.QuietTactic
import Derived.Lib.Hide
namespace Go.Proofs.Yteehpkkkagdckaa
set_option maxRecDepth 100000
open Go.RowKit
set_option linter.unusedVariables false
attribute [local go_sem] ba_size ba_append ba_get ba_extract
set_option maxHeartbeats 4000000 in
theorem follow10_walk (C : P10C) (w : World) (vh : Value) (h : List Ev) (Th : IsEvs w vh h) (Gh : ∀ x ∈ h, goodE x) (Nh : h.length * 48 ≤ 140737488351232) (k f t I J : Int) (ge : goodEd (k, f, t, I, J)) :
    Calls Try.prog 6 #[vh, .agg #[.int .i64 k, .int .i64 f, .int .i64 t, .int .i64 I, .int .i64 J]] w fun e w' => e = .returned (.bool true) ∧ Below w.heap.size w w' := by
  have HSh : Hid (∀ W, Below w.heap.size w W → Calls Try.prog 10 #[] W fun e w' => e = .returned (.bool true) ∧ Below W.heap.size W w') := fun W h => shown10_any C W
  have HF : Hid (∀ W, Below w.heap.size w W → Calls Try.prog 11 #[vh] W fun e w' => e = .returned (.bool (decide (fewH h))) ∧ Below W.heap.size W w') := fun W hb => few10_any vh h W (Th.below hb)
  have RM : Hid (∀ W, Below w.heap.size w W → Calls Try.prog 23 #[vh] W fun e w' => e = .returned (.tuple #[.int .i64 ((formedL h).1 : Int), .int .i64 ((formedL h).2 : Int)]) ∧ Below W.heap.size W w') := fun W hb => rformed_any h vh W (Th.below hb)
  have RB : Hid (∀ W, Below w.heap.size w W → Calls Try.prog 24 #[vh] W fun e w' => BdRow 69 W (badsL h) e w') := fun W hb => rbads_big h vh W (Th.below hb) (by omega)
  by_cases h1 : fewH h
  · have hn3 : h.length ≤ 300 := by have := h1.2; omega
    by_cases h2 : (formedL h).2 = 0
    · have hw := (formed_ok h).1 h2
      rw [formed_wf h hw] at RM
      simp only at RM
      rw [decide_eq_true h1] at HF
      clear h2
      by_cases h3 : badsL h = []
      · rw [h3] at RB
        have GE : Hid (∀ x ∈ edgesL h, goodEd x) := fun x hx => edges_good h hn3 Gh x hx
        have HA : Hid (∀ W, Below w.heap.size w W → Calls Try.prog 13 #[vh] W fun e w' => EdRow 24 W (edgesL h) e w') := fun W hb => C.all h vh W (Th.below hb) Gh hn3
        have HO : Hid (∀ W, Below w.heap.size w W → Calls Try.prog 18 #[vh, .agg #[.int .i64 k, .int .i64 f, .int .i64 t, .int .i64 I, .int .i64 J]] W fun e w' => e = .returned (.bool (holdsC h (k, f, t, I, J))) ∧ Below W.heap.size W w') := fun W hb => C.holds h vh W k f t I J (Th.below hb) Gh hn3 ge
        have bE := edges_few h hn3
        by_cases h4 : holdsC h (k, f, t, I, J) = true
        · skip
          have hh := (holdsC_iff h (k, f, t, I, J)).1 h4
          have HWy : Hid (Way (edgesL h) f t) := edges_follow hw ((bads_nil h).1 h3) (k, f, t, I, J) hh
          have h99 := holds_99 h h1 (k, f, t, I, J) hh
          simp only at h99
          have H99 : Hid (∀ x ∈ edgesL h, (0 ≤ x.2.1 ∧ x.2.1 ≤ 99) ∧ (0 ≤ x.2.2.1 ∧ x.2.2.1 ≤ 99)) := fun x hx => edges_few99 h h1 x hx
          obtain ⟨f', rfl⟩ : ∃ n : Nat, f = (n : Int) := ⟨f.toNat, by omega⟩
          obtain ⟨t', rfl⟩ : ∃ n : Nat, t = (n : Int) := ⟨t.toNat, by omega⟩
          have hf9 : f' < 100 := by omega
          have ht9 : t' < 100 := by omega
          have jf1 : ¬ (f' : Int) < 0 := by omega
          have jf2 : (f' : Int) < 100 := by omega
          have jt1 : ¬ (t' : Int) < 0 := by omega
          have jt2 : (t' : Int) < 100 := by omega
          rw [h4] at HO
          obtain ⟨EE, hEE⟩ : ∃ y, edgesL h = y := ⟨_, rfl⟩
          rw [hEE] at HA bE GE HWy H99
          clear hEE h3 h4 hh h99
          obtain ⟨ah, ch, rfl, ih, jh, kh, HCh⟩ := Th.reads
          have X_e := SBox.new w 24 #[.int .i64 k, .int .i64 (f' : Int), .int .i64 (t' : Int), .int .i64 I, .int .i64 J]
          have B_e := Below.alloc (Below.refl w.heap.size w) (Below.size (Below.refl w.heap.size w)) (.cells #[.int .i64 k, .int .i64 (f' : Int), .int .i64 (t' : Int), .int .i64 I, .int .i64 J] 24)
          go_enter Try.func6, Try.ntmps6
          have f_e0_0 := X_e.cell 0 _ rfl
          have f_e1_0 := X_e.cell 1 _ rfl
          have f_e2_0 := X_e.cell 2 _ rfl
          have f_e3_0 := X_e.cell 3 _ rfl
          have f_e4_0 := X_e.cell 4 _ rfl
          go_wp2_with fail
          refine (HSh.out _ B_e).mono ?_
          rintro e w1 ⟨rfl, b1⟩
          have B1 := bel_trans B_e b1
          clear f_e0_0 f_e1_0 f_e2_0 f_e3_0 f_e4_0
          replace X_e := X_e.below b1
          have f_e0_1 := X_e.cell 0 _ rfl
          have f_e1_1 := X_e.cell 1 _ rfl
          have f_e2_1 := X_e.cell 2 _ rfl
          have f_e3_1 := X_e.cell 3 _ rfl
          have f_e4_1 := X_e.cell 4 _ rfl
          go_wp2_with fail
          refine (HF.out _ B1).mono ?_
          rintro e w2 ⟨rfl, b2⟩
          have B2 := bel_trans B1 b2
          clear f_e0_1 f_e1_1 f_e2_1 f_e3_1 f_e4_1
          replace X_e := X_e.below b2
          have f_e0_2 := X_e.cell 0 _ rfl
          have f_e1_2 := X_e.cell 1 _ rfl
          have f_e2_2 := X_e.cell 2 _ rfl
          have f_e3_2 := X_e.cell 3 _ rfl
          have f_e4_2 := X_e.cell 4 _ rfl
          go_wp2_with fail
          refine (RM.out _ B2).mono ?_
          rintro e w3 ⟨rfl, b3⟩
          have B3 := bel_trans B2 b3
          clear f_e0_2 f_e1_2 f_e2_2 f_e3_2 f_e4_2
          replace X_e := X_e.below b3
          have f_e0_3 := X_e.cell 0 _ rfl
          have f_e1_3 := X_e.cell 1 _ rfl
          have f_e2_3 := X_e.cell 2 _ rfl
          have f_e3_3 := X_e.cell 3 _ rfl
          have f_e4_3 := X_e.cell 4 _ rfl
          go_wp2_with fail
          refine (RB.out _ B3).mono ?_
          rintro e w4 hres4
          obtain ⟨u_z, rfl, b4, o_z⟩ := hres4
          have B4 := bel_trans B3 b4
          clear f_e0_3 f_e1_3 f_e2_3 f_e3_3 f_e4_3
          replace X_e := X_e.below b4
          have T_z := IsRec.own (L := ([] : List Bd)) badV_len (by omega) o_z (by simp)
          obtain ⟨a_z, c_z, rfl, i_z, j_z, _, HC_z⟩ := T_z.some_at
          have f_e0_4 := X_e.cell 0 _ rfl
          have f_e1_4 := X_e.cell 1 _ rfl
          have f_e2_4 := X_e.cell 2 _ rfl
          have f_e3_4 := X_e.cell 3 _ rfl
          have f_e4_4 := X_e.cell 4 _ rfl
          go_wp2_with fail
          refine (HO.out _ B4).mono ?_
          rintro e w5 ⟨rfl, b5⟩
          have B5 := bel_trans B4 b5
          clear f_e0_4 f_e1_4 f_e2_4 f_e3_4 f_e4_4
          replace X_e := X_e.below b5
          replace T_z := T_z.below b5
          have f_e0_5 := X_e.cell 0 _ rfl
          have f_e1_5 := X_e.cell 1 _ rfl
          have f_e2_5 := X_e.cell 2 _ rfl
          have f_e3_5 := X_e.cell 3 _ rfl
          have f_e4_5 := X_e.cell 4 _ rfl
          go_wp2_with fail
          refine (HA.out _ B5).mono ?_
          rintro e w6 hres6
          obtain ⟨u_p, rfl, b6, o_p⟩ := hres6
          have B6 := bel_trans B5 b6
          clear f_e0_5 f_e1_5 f_e2_5 f_e3_5 f_e4_5
          replace X_e := X_e.below b6
          replace T_z := T_z.below b6
          have T_p := IsRec.own (L := EE) edV_len (by omega) o_p (by omega)
          have f_e0_6 := X_e.cell 0 _ rfl
          have f_e1_6 := X_e.cell 1 _ rfl
          have f_e2_6 := X_e.cell 2 _ rfl
          have f_e3_6 := X_e.cell 3 _ rfl
          have f_e4_6 := X_e.cell 4 _ rfl
          obtain ⟨a_p, c_p, rfl, i_p, j_p, k_p, HC_p⟩ := IsEds.reads T_p
          obtain ⟨m, hm⟩ : ∃ m, EE.length = m := ⟨_, rfl⟩
          have HM : Hid (EE.length = m) := hm
          rw [hm] at i_p k_p ⊢
          clear hm T_p T_z
          have hz0 : Try.zeroCells42 = ((List.replicate 100 false).map Value.bool).toArray := by kernel_rfl
          have A7 := BA.new w6
          have b7 := (Below.refl w6.heap.size w6).alloc (Nat.le_refl _) (.cells ((List.replicate 100 false).map Value.bool).toArray 42)
          rw [← hz0] at A7 b7
          obtain ⟨Z, hZ⟩ : ∃ Z, List.replicate 100 false = Z := ⟨_, rfl⟩
          have lZ : Hid (Z.length = 100) := by show _ = _; rw [← hZ]; simp
          have hzf : Z[f']? = some false := by rw [← hZ, List.getElem?_replicate, if_pos hf9]
          rw [hZ] at A7
          clear hZ hz0 f_e0_6 f_e1_6 f_e2_6 f_e3_6 f_e4_6
          have X7 := X_e.below b7
          have y1 := X7.cell 1 _ rfl
          have z1 := A7.cell f' false hzf
          have z2 := A7.frozen f'
          have A8 := A7.set f'
          have b8 : Below w6.heap.size w6 ((w6.alloc (.cells Try.zeroCells42 42)).setCell ⟨w6.heap.size, f', none⟩ (.bool true)) := b7.setCell (p := ⟨w6.heap.size, f', none⟩) (Nat.le_refl _) _
          have A9 : Hid ((Z.set f' true)[f']? = some true) := set_at Z f' (by rw [lZ.out]; exact hf9)
          have hS8 : Hid (spreadI EE (Z.set f' true) 0) := by
            right
            rcases subB_cn Z (Z.set f' true) (subB.set (subB.refl Z) f') with e | e
            · have := A9.out
              rw [← e, hzf] at this
              cases this
            · omega
          have l8 : Hid ((Z.set f' true).length = 100) := by show _ = _; rw [List.length_set]; exact lZ.out
          have heq : (w6.alloc (.cells Try.zeroCells42 42)).setCell ⟨w6.heap.size, f', none⟩ (.bool true) = w6.alloc (.cells (Try.zeroCells42.setIfInBounds f' (.bool true)) 42) := by first | (simp; done) | (simp [go_sem]; done)
          rw [heq] at A8 b8
          clear heq
          go_wp2_with fail
          go_loopw [12] (fun i wr => ∃ (n : Nat) (A : List Bool), n ≤ 100 ∧ i = .int .i64 n ∧ Hid (A.length = 100) ∧ Hid (A[f']? = some true) ∧ Hid (spreadI EE A n) ∧ Below w6.heap.size w6 wr ∧ BA wr w6.heap.size A) (fun i _ => 100 - (intOf i).toNat)
          case atStart => exact ⟨0, _, Nat.zero_le _, rfl, l8, A9, hS8, b8, A8⟩
          case round =>
            obtain ⟨n, A, hn, rfl, lA, fA, sA, hbw, bA⟩ := hrel
            by_cases hlt : n < 100
            · have jn : (n : Int) < 100 := by omega
              go_wp2_with fail
              go_loopw [13] (fun i wr => ∃ (q : Nat) (A' : List Bool), q ≤ m ∧ i = .int .i64 q ∧ Hid (A'.length = 100) ∧ Hid (A'[f']? = some true) ∧ Hid (InnerI EE A A' q) ∧ Below w6.heap.size w6 wr ∧ BA wr w6.heap.size A') (fun i _ => m - (intOf i).toNat)
              case atStart => exact ⟨0, A, Nat.zero_le _, rfl, lA, fA, InnerI.start EE A, hbw, bA⟩
              case round =>
                obtain ⟨q, A', hq, rfl, lB, fB, sB, hbq, bB⟩ := hrel
                by_cases hlq : q < m
                · have hq1 : q < EE.length := by have := HM.out; omega
                  have jq : (q : Int) < (m : Int) := by omega
                  obtain ⟨bb, off, rfl, HQ⟩ := HC_p.out (by omega)
                  obtain ⟨c0, c1, c2, c3, c4⟩ := HQ.out q hq1 _ hbq
                  have h9 := H99.out _ (List.getElem_mem hq1)
                  have HP : Hid (A'[EE[q].2.1.toNat]? = some false → InnerI EE A A' (q + 1)) := fun hh => sB.out.skip hq1 hh
                  have HT : Hid (A'[EE[q].2.1.toNat]? = some true → InnerI EE A (A'.set EE[q].2.2.1.toNat true) (q + 1)) := fun hh => sB.out.put hq1 hh (by rw [lB.out]; omega)
                  obtain ⟨⟨x0, x1, x2, x3, x4⟩, hx⟩ : ∃ x, EE[q] = x := ⟨_, rfl⟩
                  rw [hx] at c0 c1 c2 c3 c4 h9 HP HT
                  simp only at c0 c1 c2 c3 c4 h9 HP HT
                  clear hx
                  obtain ⟨p1, rfl⟩ : ∃ n : Nat, x1 = (n : Int) := ⟨x1.toNat, by omega⟩
                  obtain ⟨p2, rfl⟩ : ∃ n : Nat, x2 = (n : Int) := ⟨x2.toNat, by omega⟩
                  rw [Int.toNat_natCast] at HP HT
                  rw [Int.toNat_natCast] at HT
                  have hp1 : p1 < 100 := by omega
                  have hp2 : p2 < 100 := by omega
                  have jp1 : (p1 : Int) < 100 := by omega
                  have jp2 : (p2 : Int) < 100 := by omega
                  obtain ⟨b1, hb1⟩ : ∃ b, A'[p1]? = some b := ⟨_, List.getElem?_eq_getElem (by rw [lB.out]; exact hp1)⟩
                  obtain ⟨b2', hb2'⟩ : ∃ b, A'[p2]? = some b := ⟨_, List.getElem?_eq_getElem (by rw [lB.out]; exact hp2)⟩
                  have d1 := bB.cell p1 b1 hb1
                  have d2 := bB.cell p2 b2' hb2'
                  have d3 := bB.frozen p2
                  clear h9
                  cases b1 with
                  | false =>
                    have sC := Lib.hid (HP.out hb1)
                    clear hb1 hb2' HP HT sB
                    go_wp2_with fail
                    refine ⟨⟨q + 1, A', by omega, by first | go_num | simp, lB, fB, sC, hbq, bB⟩, by simp [intOf]; omega⟩
                  | true =>
                    have sC := Lib.hid (HT.out hb1)
                    have bC := bB.set p2
                    have hbC : Below w6.heap.size w6 (wr.setCell ⟨w6.heap.size, p2, none⟩ (.bool true)) := hbq.setCell (p := ⟨w6.heap.size, p2, none⟩) (Nat.le_refl _) _
                    have lC : Hid ((A'.set p2 true).length = 100) := by show _ = _; rw [List.length_set]; exact lB.out
                    have fC : Hid ((A'.set p2 true)[f']? = some true) := set_keep A' f' p2 fB.out
                    clear hb1 hb2' HP HT sB
                    go_wp2_with fail
                    refine ⟨⟨q + 1, A'.set p2 true, by omega, by first | go_num | simp, lC, fC, sC, hbC, bC⟩, by simp [intOf]; omega⟩
                · obtain rfl : q = m := by omega
                  have jq : ¬ (q : Int) < (q : Int) := by omega
                  have sD : Hid (spreadI EE A' (n + 1)) := by
                    have e := sB.out
                    rw [← HM.out] at e
                    exact e.end sA.out
                  go_wp2_with fail
                  refine ⟨⟨n + 1, A', by omega, by first | go_num | simp, lB, fB, sD, hbq, bB⟩, by simp [intOf]; omega⟩
            · obtain rfl : n = 100 := by omega
              have hcl := spread_end sA.out lA.out
              have ht := way_closed hcl HWy.out (by rw [Int.toNat_natCast]; exact fA.out)
              rw [Int.toNat_natCast] at ht
              have d1 := bA.cell t' true ht
              have X9 := X_e.below hbw
              have y2 := X9.cell 2 _ rfl
              clear hcl ht
              go_wp2_with fail
              go_ret
              exact ⟨rfl, bel_trans B6 hbw⟩
        · have h5 : holdsC h (k, f, t, I, J) = false := by simpa using h4
          rw [h5] at HO
          clear h4 h5 h3
          obtain ⟨ah, ch, rfl, ih, jh, kh, HCh⟩ := Th.reads
          have X_e := SBox.new w 24 #[.int .i64 k, .int .i64 f, .int .i64 t, .int .i64 I, .int .i64 J]
          have B_e := Below.alloc (Below.refl w.heap.size w) (Below.size (Below.refl w.heap.size w)) (.cells #[.int .i64 k, .int .i64 f, .int .i64 t, .int .i64 I, .int .i64 J] 24)
          go_enter Try.func6, Try.ntmps6
          have f_e0_0 := X_e.cell 0 _ rfl
          have f_e1_0 := X_e.cell 1 _ rfl
          have f_e2_0 := X_e.cell 2 _ rfl
          have f_e3_0 := X_e.cell 3 _ rfl
          have f_e4_0 := X_e.cell 4 _ rfl
          go_wp2_with fail
          refine (HSh.out _ B_e).mono ?_
          rintro e w1 ⟨rfl, b1⟩
          have B1 := bel_trans B_e b1
          clear f_e0_0 f_e1_0 f_e2_0 f_e3_0 f_e4_0
          replace X_e := X_e.below b1
          have f_e0_1 := X_e.cell 0 _ rfl
          have f_e1_1 := X_e.cell 1 _ rfl
          have f_e2_1 := X_e.cell 2 _ rfl
          have f_e3_1 := X_e.cell 3 _ rfl
          have f_e4_1 := X_e.cell 4 _ rfl
          go_wp2_with fail
          refine (HF.out _ B1).mono ?_
          rintro e w2 ⟨rfl, b2⟩
          have B2 := bel_trans B1 b2
          clear f_e0_1 f_e1_1 f_e2_1 f_e3_1 f_e4_1
          replace X_e := X_e.below b2
          have f_e0_2 := X_e.cell 0 _ rfl
          have f_e1_2 := X_e.cell 1 _ rfl
          have f_e2_2 := X_e.cell 2 _ rfl
          have f_e3_2 := X_e.cell 3 _ rfl
          have f_e4_2 := X_e.cell 4 _ rfl
          go_wp2_with fail
          refine (RM.out _ B2).mono ?_
          rintro e w3 ⟨rfl, b3⟩
          have B3 := bel_trans B2 b3
          clear f_e0_2 f_e1_2 f_e2_2 f_e3_2 f_e4_2
          replace X_e := X_e.below b3
          have f_e0_3 := X_e.cell 0 _ rfl
          have f_e1_3 := X_e.cell 1 _ rfl
          have f_e2_3 := X_e.cell 2 _ rfl
          have f_e3_3 := X_e.cell 3 _ rfl
          have f_e4_3 := X_e.cell 4 _ rfl
          go_wp2_with fail
          refine (RB.out _ B3).mono ?_
          rintro e w4 hres4
          obtain ⟨u_z, rfl, b4, o_z⟩ := hres4
          have B4 := bel_trans B3 b4
          clear f_e0_3 f_e1_3 f_e2_3 f_e3_3 f_e4_3
          replace X_e := X_e.below b4
          have T_z := IsRec.own (L := ([] : List Bd)) badV_len (by omega) o_z (by simp)
          obtain ⟨a_z, c_z, rfl, i_z, j_z, _, HC_z⟩ := T_z.some_at
          have f_e0_4 := X_e.cell 0 _ rfl
          have f_e1_4 := X_e.cell 1 _ rfl
          have f_e2_4 := X_e.cell 2 _ rfl
          have f_e3_4 := X_e.cell 3 _ rfl
          have f_e4_4 := X_e.cell 4 _ rfl
          go_wp2_with fail
          refine (HO.out _ B4).mono ?_
          rintro e w5 ⟨rfl, b5⟩
          have B5 := bel_trans B4 b5
          clear f_e0_4 f_e1_4 f_e2_4 f_e3_4 f_e4_4
          replace X_e := X_e.below b5
          replace T_z := T_z.below b5
          have f_e0_5 := X_e.cell 0 _ rfl
          have f_e1_5 := X_e.cell 1 _ rfl
          have f_e2_5 := X_e.cell 2 _ rfl
          have f_e3_5 := X_e.cell 3 _ rfl
          have f_e4_5 := X_e.cell 4 _ rfl
          go_wp2_with fail
          go_ret
          exact ⟨rfl, B5⟩
      · skip
        have bB := bads_len h
        obtain ⟨BB, hBB⟩ : ∃ y, badsL h = y := ⟨_, rfl⟩
        rw [hBB] at RB bB
        have lB : 0 < BB.length := by
          rcases BB with _ | ⟨x, r⟩
          · exact absurd hBB h3
          · simp
        clear hBB h3
        obtain ⟨ah, ch, rfl, ih, jh, kh, HCh⟩ := Th.reads
        obtain ⟨m, hm⟩ : ∃ m, BB.length = m := ⟨_, rfl⟩
        have jm : (0 : Int) < (m : Int) := by omega
        have X_e := SBox.new w 24 #[.int .i64 k, .int .i64 f, .int .i64 t, .int .i64 I, .int .i64 J]
        have B_e := Below.alloc (Below.refl w.heap.size w) (Below.size (Below.refl w.heap.size w)) (.cells #[.int .i64 k, .int .i64 f, .int .i64 t, .int .i64 I, .int .i64 J] 24)
        go_enter Try.func6, Try.ntmps6
        have f_e0_0 := X_e.cell 0 _ rfl
        have f_e1_0 := X_e.cell 1 _ rfl
        have f_e2_0 := X_e.cell 2 _ rfl
        have f_e3_0 := X_e.cell 3 _ rfl
        have f_e4_0 := X_e.cell 4 _ rfl
        go_wp2_with fail
        refine (HSh.out _ B_e).mono ?_
        rintro e w1 ⟨rfl, b1⟩
        have B1 := bel_trans B_e b1
        clear f_e0_0 f_e1_0 f_e2_0 f_e3_0 f_e4_0
        replace X_e := X_e.below b1
        have f_e0_1 := X_e.cell 0 _ rfl
        have f_e1_1 := X_e.cell 1 _ rfl
        have f_e2_1 := X_e.cell 2 _ rfl
        have f_e3_1 := X_e.cell 3 _ rfl
        have f_e4_1 := X_e.cell 4 _ rfl
        go_wp2_with fail
        refine (HF.out _ B1).mono ?_
        rintro e w2 ⟨rfl, b2⟩
        have B2 := bel_trans B1 b2
        clear f_e0_1 f_e1_1 f_e2_1 f_e3_1 f_e4_1
        replace X_e := X_e.below b2
        have f_e0_2 := X_e.cell 0 _ rfl
        have f_e1_2 := X_e.cell 1 _ rfl
        have f_e2_2 := X_e.cell 2 _ rfl
        have f_e3_2 := X_e.cell 3 _ rfl
        have f_e4_2 := X_e.cell 4 _ rfl
        go_wp2_with fail
        refine (RM.out _ B2).mono ?_
        rintro e w3 ⟨rfl, b3⟩
        have B3 := bel_trans B2 b3
        clear f_e0_2 f_e1_2 f_e2_2 f_e3_2 f_e4_2
        replace X_e := X_e.below b3
        have f_e0_3 := X_e.cell 0 _ rfl
        have f_e1_3 := X_e.cell 1 _ rfl
        have f_e2_3 := X_e.cell 2 _ rfl
        have f_e3_3 := X_e.cell 3 _ rfl
        have f_e4_3 := X_e.cell 4 _ rfl
        go_wp2_with fail
        refine (RB.out _ B3).mono ?_
        rintro e w4 hres4
        obtain ⟨u_z, rfl, b4, o_z⟩ := hres4
        have B4 := bel_trans B3 b4
        clear f_e0_3 f_e1_3 f_e2_3 f_e3_3 f_e4_3
        replace X_e := X_e.below b4
        have T_z := IsRec.own (L := BB) badV_len (by omega) o_z (by omega)
        obtain ⟨a_z, c_z, rfl, i_z, j_z, _, HC_z⟩ := T_z.some_at
        have f_e0_4 := X_e.cell 0 _ rfl
        have f_e1_4 := X_e.cell 1 _ rfl
        have f_e2_4 := X_e.cell 2 _ rfl
        have f_e3_4 := X_e.cell 3 _ rfl
        have f_e4_4 := X_e.cell 4 _ rfl
        rw [hm] at i_z ⊢
        clear T_z hm
        go_wp2_with fail
        go_ret
        exact ⟨rfl, B4⟩
    · rw [decide_eq_true h1] at HF
      obtain ⟨⟨f1, f2⟩, hf⟩ : ∃ y, formedL h = y := ⟨_, rfl⟩
      rw [hf] at RM h2
      simp only at RM h2
      have j2 : ((f2 : Int) != 0) = true := by rw [bne_iff_ne]; omega
      clear hf h2
      have bB := bads_len h
      obtain ⟨BB, hBB⟩ : ∃ y, badsL h = y := ⟨_, rfl⟩
      rw [hBB] at RB bB
      obtain ⟨ah, ch, rfl, ih, jh, kh, HCh⟩ := Th.reads
      have X_e := SBox.new w 24 #[.int .i64 k, .int .i64 f, .int .i64 t, .int .i64 I, .int .i64 J]
      have B_e := Below.alloc (Below.refl w.heap.size w) (Below.size (Below.refl w.heap.size w)) (.cells #[.int .i64 k, .int .i64 f, .int .i64 t, .int .i64 I, .int .i64 J] 24)
      go_enter Try.func6, Try.ntmps6
      have f_e0_0 := X_e.cell 0 _ rfl
      have f_e1_0 := X_e.cell 1 _ rfl
      have f_e2_0 := X_e.cell 2 _ rfl
      have f_e3_0 := X_e.cell 3 _ rfl
      have f_e4_0 := X_e.cell 4 _ rfl
      go_wp2_with fail
      refine (HSh.out _ B_e).mono ?_
      rintro e w1 ⟨rfl, b1⟩
      have B1 := bel_trans B_e b1
      clear f_e0_0 f_e1_0 f_e2_0 f_e3_0 f_e4_0
      replace X_e := X_e.below b1
      have f_e0_1 := X_e.cell 0 _ rfl
      have f_e1_1 := X_e.cell 1 _ rfl
      have f_e2_1 := X_e.cell 2 _ rfl
      have f_e3_1 := X_e.cell 3 _ rfl
      have f_e4_1 := X_e.cell 4 _ rfl
      go_wp2_with fail
      refine (HF.out _ B1).mono ?_
      rintro e w2 ⟨rfl, b2⟩
      have B2 := bel_trans B1 b2
      clear f_e0_1 f_e1_1 f_e2_1 f_e3_1 f_e4_1
      replace X_e := X_e.below b2
      have f_e0_2 := X_e.cell 0 _ rfl
      have f_e1_2 := X_e.cell 1 _ rfl
      have f_e2_2 := X_e.cell 2 _ rfl
      have f_e3_2 := X_e.cell 3 _ rfl
      have f_e4_2 := X_e.cell 4 _ rfl
      go_wp2_with fail
      refine (RM.out _ B2).mono ?_
      rintro e w3 ⟨rfl, b3⟩
      have B3 := bel_trans B2 b3
      clear f_e0_2 f_e1_2 f_e2_2 f_e3_2 f_e4_2
      replace X_e := X_e.below b3
      have f_e0_3 := X_e.cell 0 _ rfl
      have f_e1_3 := X_e.cell 1 _ rfl
      have f_e2_3 := X_e.cell 2 _ rfl
      have f_e3_3 := X_e.cell 3 _ rfl
      have f_e4_3 := X_e.cell 4 _ rfl
      go_wp2_with fail
      refine (RB.out _ B3).mono ?_
      rintro e w4 hres4
      obtain ⟨u_z, rfl, b4, o_z⟩ := hres4
      have B4 := bel_trans B3 b4
      clear f_e0_3 f_e1_3 f_e2_3 f_e3_3 f_e4_3
      replace X_e := X_e.below b4
      have T_z := IsRec.own (L := BB) badV_len (by omega) o_z (by omega)
      obtain ⟨a_z, c_z, rfl, i_z, j_z, _, HC_z⟩ := T_z.some_at
      have f_e0_4 := X_e.cell 0 _ rfl
      have f_e1_4 := X_e.cell 1 _ rfl
      have f_e2_4 := X_e.cell 2 _ rfl
      have f_e3_4 := X_e.cell 3 _ rfl
      have f_e4_4 := X_e.cell 4 _ rfl
      go_wp2_with fail
      go_ret
      exact ⟨rfl, B4⟩
  · skip
    obtain ⟨⟨f1, f2⟩, hf⟩ : ∃ y, formedL h = y := ⟨_, rfl⟩
    rw [hf] at RM
    simp only at RM
    clear hf
    rw [decide_eq_false h1] at HF
    have bB := bads_len h
    obtain ⟨BB, hBB⟩ : ∃ y, badsL h = y := ⟨_, rfl⟩
    rw [hBB] at RB bB
    obtain ⟨ah, ch, rfl, ih, jh, kh, HCh⟩ := Th.reads
    have X_e := SBox.new w 24 #[.int .i64 k, .int .i64 f, .int .i64 t, .int .i64 I, .int .i64 J]
    have B_e := Below.alloc (Below.refl w.heap.size w) (Below.size (Below.refl w.heap.size w)) (.cells #[.int .i64 k, .int .i64 f, .int .i64 t, .int .i64 I, .int .i64 J] 24)
    go_enter Try.func6, Try.ntmps6
    have f_e0_0 := X_e.cell 0 _ rfl
    have f_e1_0 := X_e.cell 1 _ rfl
    have f_e2_0 := X_e.cell 2 _ rfl
    have f_e3_0 := X_e.cell 3 _ rfl
    have f_e4_0 := X_e.cell 4 _ rfl
    go_wp2_with fail
    refine (HSh.out _ B_e).mono ?_
    rintro e w1 ⟨rfl, b1⟩
    have B1 := bel_trans B_e b1
    clear f_e0_0 f_e1_0 f_e2_0 f_e3_0 f_e4_0
    replace X_e := X_e.below b1
    have f_e0_1 := X_e.cell 0 _ rfl
    have f_e1_1 := X_e.cell 1 _ rfl
    have f_e2_1 := X_e.cell 2 _ rfl
    have f_e3_1 := X_e.cell 3 _ rfl
    have f_e4_1 := X_e.cell 4 _ rfl
    go_wp2_with fail
    refine (HF.out _ B1).mono ?_
    rintro e w2 ⟨rfl, b2⟩
    have B2 := bel_trans B1 b2
    clear f_e0_1 f_e1_1 f_e2_1 f_e3_1 f_e4_1
    replace X_e := X_e.below b2
    have f_e0_2 := X_e.cell 0 _ rfl
    have f_e1_2 := X_e.cell 1 _ rfl
    have f_e2_2 := X_e.cell 2 _ rfl
    have f_e3_2 := X_e.cell 3 _ rfl
    have f_e4_2 := X_e.cell 4 _ rfl
    go_wp2_with fail
    refine (RM.out _ B2).mono ?_
    rintro e w3 ⟨rfl, b3⟩
    have B3 := bel_trans B2 b3
    clear f_e0_2 f_e1_2 f_e2_2 f_e3_2 f_e4_2
    replace X_e := X_e.below b3
    have f_e0_3 := X_e.cell 0 _ rfl
    have f_e1_3 := X_e.cell 1 _ rfl
    have f_e2_3 := X_e.cell 2 _ rfl
    have f_e3_3 := X_e.cell 3 _ rfl
    have f_e4_3 := X_e.cell 4 _ rfl
    go_wp2_with fail
    refine (RB.out _ B3).mono ?_
    rintro e w4 hres4
    obtain ⟨u_z, rfl, b4, o_z⟩ := hres4
    have B4 := bel_trans B3 b4
    clear f_e0_3 f_e1_3 f_e2_3 f_e3_3 f_e4_3
    replace X_e := X_e.below b4
    have T_z := IsRec.own (L := BB) badV_len (by omega) o_z (by omega)
    obtain ⟨a_z, c_z, rfl, i_z, j_z, _, HC_z⟩ := T_z.some_at
    have f_e0_4 := X_e.cell 0 _ rfl
    have f_e1_4 := X_e.cell 1 _ rfl
    have f_e2_4 := X_e.cell 2 _ rfl
    have f_e3_4 := X_e.cell 3 _ rfl
    have f_e4_4 := X_e.cell 4 _ rfl
    go_wp2_with fail
    go_ret
    exact ⟨rfl, B4⟩
end Go.Proofs.Yteehpkkkagdckaa
