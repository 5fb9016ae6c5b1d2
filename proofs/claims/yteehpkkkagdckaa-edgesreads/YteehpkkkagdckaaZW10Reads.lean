/-
  The walk of EdgesReads.
-/
import Derived.Test.YteehpkkkagdckaaZShown10
import Derived.Test.YteehpkkkagdckaaZEdges10
import Derived.Test.YteehpkkkagdckaaZEdges10b
import Derived.Test.YteehpkkkagdckaaZR8Life
import Derived.Test.YteehpkkkagdckaaZR8Formed
import Derived.Deep.RegionHeld3
import Derived.BigQuiet
import Derived.Deep.QuietTactic
import Derived.Lib.Hide
namespace Go.Proofs.Yteehpkkkagdckaa
set_option maxRecDepth 100000
open Go.RowKit
set_option linter.unusedVariables false
attribute [local go_sem] ba_size ba_append ba_get ba_extract
set_option maxHeartbeats 8000000 in
theorem reads10_walk (C : P10C) (w : World) (vh : Value) (h : List Ev) (Th : IsEvs w vh h) (Gh : ∀ x ∈ h, goodE x) :
    Calls Try.prog 8 #[vh] w fun e w' => e = .returned (.bool true) ∧ Below w.heap.size w w' := by
  have HSh : Hid (∀ W, Below w.heap.size w W → Calls Try.prog 10 #[] W fun e w' => e = .returned (.bool true) ∧ Below W.heap.size W w') := fun W h => shown10_any C W
  have HF : Hid (∀ W, Below w.heap.size w W → Calls Try.prog 11 #[vh] W fun e w' => e = .returned (.bool (decide (fewH h))) ∧ Below W.heap.size W w') := fun W hb => few10_any vh h W (Th.below hb)
  have RM : Hid (∀ W, Below w.heap.size w W → Calls Try.prog 23 #[vh] W fun e w' => e = .returned (.tuple #[.int .i64 ((formedL h).1 : Int), .int .i64 ((formedL h).2 : Int)]) ∧ Below W.heap.size W w') := fun W hb => rformed_any h vh W (Th.below hb)
  by_cases h1 : fewH h
  · have hn3 : h.length ≤ 300 := by have := h1.2; omega
    by_cases h2 : (formedL h).2 = 0
    · have hw := (formed_ok h).1 h2
      rw [formed_wf h hw] at RM
      simp only at RM
      rw [decide_eq_true h1] at HF
      clear h2
      have HA : Hid (∀ W, Below w.heap.size w W → Calls Try.prog 13 #[vh] W fun e w' => EdRow 24 W (edgesL h) e w') := fun W hb => C.all h vh W (Th.below hb) Gh hn3
      have RF : Hid (∀ (t : Int) W, Below w.heap.size w W → Calls Try.prog 25 #[vh, .int .i64 t] W fun e w' => e = .returned (.tuple #[lifA (findP h t).1, .bool (findP h t).2]) ∧ Below W.heap.size W w') := fun t W hb => rfind_any h vh W (Th.below hb) t
      have bE := edges_few h hn3
      have HAP : Hid (∀ e ∈ edgesL h, e.2.1 ≠ e.2.2.1) := fun e he => by obtain ⟨_, _, _, _, _, _, h3, _⟩ := edges_apart h e he; exact h3
      have HRD : Hid (∀ e ∈ edgesL h, ∃ a b i j : Nat, commL h e.2.1 = some a ∧ commL h e.2.2.1 = some b ∧ e.2.2.2.1 = (i : Int) ∧ e.2.2.2.2 = (j : Int) ∧ i < h.length ∧ j < h.length ∧ (e.1 = 2 → (ev h i).2.2.2 = (ev h j).2.2.2) ∧ (e.1 = 3 → (ev h i).2.2.2 ≠ (ev h j).2.2.2) ∧ (e.1 = 1 → a < b)) := fun e he => edges_reads hw e he
      have HKD : Hid (∀ e ∈ edgesL h, e.1 = 1 ∨ e.1 = 2 ∨ e.1 = 3) := fun e he => edges_kind h e he
      obtain ⟨EE, hEE⟩ : ∃ y, edgesL h = y := ⟨_, rfl⟩
      rw [hEE] at HA bE HAP HRD HKD
      clear hEE
      obtain ⟨ah, ch, rfl, ih, jh, kh, HCh⟩ := Th.reads
      obtain ⟨n, hn⟩ : ∃ n, h.length = n := ⟨_, rfl⟩
      have HN : Hid (h.length = n) := hn
      simp only [hn] at HF HA RF RM ih kh hn3 ⊢
      clear hn
      go_enter Try.func8, Try.ntmps8
      go_wp2_with fail
      refine (HSh.out _ (Below.refl w.heap.size w)).mono ?_
      rintro e w1 ⟨rfl, b1⟩
      have B1 := bel_trans (Below.refl w.heap.size w) b1
      go_wp2_with fail
      refine (HF.out _ B1).mono ?_
      rintro e w2 ⟨rfl, b2⟩
      have B2 := bel_trans B1 b2
      go_wp2_with fail
      refine (RM.out _ B2).mono ?_
      rintro e w3 ⟨rfl, b3⟩
      have B3 := bel_trans B2 b3
      go_wp2_with fail
      refine (HA.out _ B3).mono ?_
      rintro e w4 hres4
      obtain ⟨u_p, rfl, b4, o_p⟩ := hres4
      have B4 := bel_trans B3 b4
      have T_p := IsRec.own (L := EE) edV_len (by omega) o_p (by omega)
      obtain ⟨a_p, c_p, rfl, i_p, j_p, k_p, HC_p⟩ := IsEds.reads T_p
      obtain ⟨m, hm⟩ : ∃ m, EE.length = m := ⟨_, rfl⟩
      have HM : Hid (EE.length = m) := hm
      rw [hm] at i_p k_p ⊢
      clear hm T_p
      go_wp2_with fail
      go_loopw [8] (fun i wr => ∃ q : Nat, q ≤ m ∧ i = .int .i64 q ∧ Below w4.heap.size w4 wr) (fun i _ => m - (intOf i).toNat)
      case atStart => exact ⟨0, Nat.zero_le _, rfl, Below.refl _ _⟩
      case round =>
        obtain ⟨q, hq, rfl, hbw⟩ := hrel
        by_cases hlt : q < m
        · have hq1 : q < EE.length := by have := HM.out; omega
          have jq : (q : Int) < (m : Int) := by omega
          obtain ⟨bp, op, rfl, HQ⟩ := HC_p.out (by omega)
          obtain ⟨c0, c1, c2, c3, c4⟩ := HQ.out q hq1 _ hbw
          obtain ⟨a, b, i, j, e1, e2, e4, e5, e6, e7, e8, e9, e10⟩ := HRD.out _ (List.getElem_mem hq1)
          have hk := HKD.out _ (List.getElem_mem hq1)
          obtain ⟨⟨x0, x1, x2, x3, x4⟩, hx⟩ : ∃ x, EE[q] = x := ⟨_, rfl⟩
          rw [hx] at c0 c1 c2 c3 c4 e1 e2 e4 e5 e8 e9 e10 hk
          simp only at c0 c1 c2 c3 c4 e1 e2 e4 e5 e8 e9 e10 hk
          subst e4 e5
          clear hx
          have hi1 : Hid (i < h.length) := e6
          have hj1 : Hid (j < h.length) := e7
          obtain ⟨bb, off, rfl, HQh⟩ := HCh.out (by omega)
          obtain ⟨fa, g1⟩ := comm_find h x1 a e1
          obtain ⟨fb, g2⟩ := comm_find h x2 b e2
          have D1 := RF.out x1
          have D2 := RF.out x2
          rw [findP_of g1] at D1
          rw [findP_of g2] at D2
          simp only at D1 D2
          obtain ⟨⟨y0, y1, y2, y3⟩, hyi⟩ : ∃ x, ev h i = x := ⟨_, rfl⟩
          obtain ⟨⟨z0, z1, z2, z3⟩, hyj⟩ : ∃ x, ev h j = x := ⟨_, rfl⟩
          rw [hyi, hyj] at e8 e9
          simp only at e8 e9
          have HYi : Hid (ev h i = (y0, y1, y2, y3)) := hyi
          have HYj : Hid (ev h j = (z0, z1, z2, z3)) := hyj
          have hin : i < n := by have := HN.out; omega
          have hjn : j < n := by have := HN.out; omega
          have ji1 : ¬ (n : Int) ≤ (i : Int) := by omega
          have ji2 : ¬ n ≤ i := by omega
          have jj1 : ¬ (n : Int) ≤ (j : Int) := by omega
          have jj2 : ¬ n ≤ j := by omega
          clear hyi hyj e1 e2 e6 e7 g1 g2
          rcases hk with hk | hk | hk
          · subst hk
            have lab := e10 rfl
            have lab1 : ¬ (b : Int) ≤ (a : Int) := by omega
            have lab2 : ¬ b ≤ a := by omega
            clear e8 e9 e10
            have X1 := SBox.new wr 24 #[.int .i64 1, .int .i64 x1, .int .i64 x2, .int .i64 (i : Int), .int .i64 (j : Int)]
            have BX := (bel_trans B4 hbw).alloc (bel_trans B4 hbw).size (.cells #[.int .i64 1, .int .i64 x1, .int .i64 x2, .int .i64 (i : Int), .int .i64 (j : Int)] 24)
            have f0 := X1.cell 0 _ rfl
            have f1 := X1.cell 1 _ rfl
            have f2 := X1.cell 2 _ rfl
            have f3 := X1.cell 3 _ rfl
            have f4 := X1.cell 4 _ rfl
            go_wp2_with fail
            refine (D1 _ BX).mono ?_
            rintro e v1 ⟨rfl, b1⟩
            have X2 := (X1.below b1).alloc (.cells #[.int .i64 x1, .int .i64 (fa : Int), .int .i64 (a : Int), .bool true] 44)
            have BY' := bel_trans BX b1
            have BY := BY'.alloc BY'.size (.cells #[.int .i64 x1, .int .i64 (fa : Int), .int .i64 (a : Int), .bool true] 44)
            have Y1 := SBox.new v1 44 #[.int .i64 x1, .int .i64 (fa : Int), .int .i64 (a : Int), .bool true]
            clear f0 f1 f2 f3 f4
            have f2 := X2.cell 2 _ rfl
            go_wp2_with fail
            refine (D2 _ BY).mono ?_
            rintro e v2 ⟨rfl, b2⟩
            have X3 := (X2.below b2).alloc (.cells #[.int .i64 x2, .int .i64 (fb : Int), .int .i64 (b : Int), .bool true] 44)
            have Y2 := (Y1.below b2).alloc (.cells #[.int .i64 x2, .int .i64 (fb : Int), .int .i64 (b : Int), .bool true] 44)
            have BZ' := bel_trans BY b2
            have BZ := BZ'.alloc BZ'.size (.cells #[.int .i64 x2, .int .i64 (fb : Int), .int .i64 (b : Int), .bool true] 44)
            have Z1 := SBox.new v2 44 #[.int .i64 x2, .int .i64 (fb : Int), .int .i64 (b : Int), .bool true]
            clear f2
            have f0 := X3.cell 0 _ rfl
            have f1 := X3.cell 1 _ rfl
            have f2 := X3.cell 2 _ rfl
            have f3 := X3.cell 3 _ rfl
            have f4 := X3.cell 4 _ rfl
            have l2 := Y2.cell 2 _ rfl
            have l3 := Y2.cell 3 _ rfl
            have m2 := Z1.cell 2 _ rfl
            have m3 := Z1.cell 3 _ rfl
            obtain ⟨s0, s1, s2, s3⟩ := HQh.out i hi1.out _ BZ
            rw [HYi.out] at s0 s1 s2 s3
            simp only at s0 s1 s2 s3
            obtain ⟨t0, t1, t2, t3⟩ := HQh.out j hj1.out _ BZ
            rw [HYj.out] at t0 t1 t2 t3
            simp only at t0 t1 t2 t3
            have BW : Below w4.heap.size w4 ((v2.alloc (.cells #[.int .i64 x2, .int .i64 (fb : Int), .int .i64 (b : Int), .bool true] 44))) := by
              have p1 := hbw.alloc hbw.size (.cells #[.int .i64 1, .int .i64 x1, .int .i64 x2, .int .i64 (i : Int), .int .i64 (j : Int)] 24)
              have p2 := bel_trans p1 b1
              have p3 := p2.alloc p2.size (.cells #[.int .i64 x1, .int .i64 (fa : Int), .int .i64 (a : Int), .bool true] 44)
              have p4 := bel_trans p3 b2
              exact p4.alloc p4.size _
            go_wp2_with fail
            (try go_quiet (fail))
            (try go_wp2_with fail)
            refine ⟨⟨q + 1, by omega, by first | go_num | simp, by first | exact BW | exact below_drewN BW _⟩, by simp [intOf]; omega⟩
          · subst hk
            obtain rfl := e8 rfl
            clear e9 e10
            have es : (y3 == y3) = true := beq_self_eq_true _
            have es2 : (y3 != y3) = false := by simp
            have X1 := SBox.new wr 24 #[.int .i64 2, .int .i64 x1, .int .i64 x2, .int .i64 (i : Int), .int .i64 (j : Int)]
            have BX := (bel_trans B4 hbw).alloc (bel_trans B4 hbw).size (.cells #[.int .i64 2, .int .i64 x1, .int .i64 x2, .int .i64 (i : Int), .int .i64 (j : Int)] 24)
            have f0 := X1.cell 0 _ rfl
            have f1 := X1.cell 1 _ rfl
            have f2 := X1.cell 2 _ rfl
            have f3 := X1.cell 3 _ rfl
            have f4 := X1.cell 4 _ rfl
            go_wp2_with fail
            refine (D1 _ BX).mono ?_
            rintro e v1 ⟨rfl, b1⟩
            have X2 := (X1.below b1).alloc (.cells #[.int .i64 x1, .int .i64 (fa : Int), .int .i64 (a : Int), .bool true] 44)
            have BY' := bel_trans BX b1
            have BY := BY'.alloc BY'.size (.cells #[.int .i64 x1, .int .i64 (fa : Int), .int .i64 (a : Int), .bool true] 44)
            have Y1 := SBox.new v1 44 #[.int .i64 x1, .int .i64 (fa : Int), .int .i64 (a : Int), .bool true]
            clear f0 f1 f2 f3 f4
            have f2 := X2.cell 2 _ rfl
            go_wp2_with fail
            refine (D2 _ BY).mono ?_
            rintro e v2 ⟨rfl, b2⟩
            have X3 := (X2.below b2).alloc (.cells #[.int .i64 x2, .int .i64 (fb : Int), .int .i64 (b : Int), .bool true] 44)
            have Y2 := (Y1.below b2).alloc (.cells #[.int .i64 x2, .int .i64 (fb : Int), .int .i64 (b : Int), .bool true] 44)
            have BZ' := bel_trans BY b2
            have BZ := BZ'.alloc BZ'.size (.cells #[.int .i64 x2, .int .i64 (fb : Int), .int .i64 (b : Int), .bool true] 44)
            have Z1 := SBox.new v2 44 #[.int .i64 x2, .int .i64 (fb : Int), .int .i64 (b : Int), .bool true]
            clear f2
            have f0 := X3.cell 0 _ rfl
            have f1 := X3.cell 1 _ rfl
            have f2 := X3.cell 2 _ rfl
            have f3 := X3.cell 3 _ rfl
            have f4 := X3.cell 4 _ rfl
            have l2 := Y2.cell 2 _ rfl
            have l3 := Y2.cell 3 _ rfl
            have m2 := Z1.cell 2 _ rfl
            have m3 := Z1.cell 3 _ rfl
            obtain ⟨s0, s1, s2, s3⟩ := HQh.out i hi1.out _ BZ
            rw [HYi.out] at s0 s1 s2 s3
            simp only at s0 s1 s2 s3
            obtain ⟨t0, t1, t2, t3⟩ := HQh.out j hj1.out _ BZ
            rw [HYj.out] at t0 t1 t2 t3
            simp only at t0 t1 t2 t3
            have BW : Below w4.heap.size w4 ((v2.alloc (.cells #[.int .i64 x2, .int .i64 (fb : Int), .int .i64 (b : Int), .bool true] 44))) := by
              have p1 := hbw.alloc hbw.size (.cells #[.int .i64 2, .int .i64 x1, .int .i64 x2, .int .i64 (i : Int), .int .i64 (j : Int)] 24)
              have p2 := bel_trans p1 b1
              have p3 := p2.alloc p2.size (.cells #[.int .i64 x1, .int .i64 (fa : Int), .int .i64 (a : Int), .bool true] 44)
              have p4 := bel_trans p3 b2
              exact p4.alloc p4.size _
            go_wp2_with fail
            (try go_quiet (fail))
            (try go_wp2_with fail)
            refine ⟨⟨q + 1, by omega, by first | go_num | simp, by first | exact BW | exact below_drewN BW _⟩, by simp [intOf]; omega⟩
          · subst hk
            have en := e9 rfl
            have en1 : (y3 == z3) = false := beq_eq_false_iff_ne.2 en
            have en2 : (y3 != z3) = true := bne_iff_ne.2 en
            have en3 : decide (y3 = z3) = false := decide_eq_false en
            clear e8 e9 e10
            have X1 := SBox.new wr 24 #[.int .i64 3, .int .i64 x1, .int .i64 x2, .int .i64 (i : Int), .int .i64 (j : Int)]
            have BX := (bel_trans B4 hbw).alloc (bel_trans B4 hbw).size (.cells #[.int .i64 3, .int .i64 x1, .int .i64 x2, .int .i64 (i : Int), .int .i64 (j : Int)] 24)
            have f0 := X1.cell 0 _ rfl
            have f1 := X1.cell 1 _ rfl
            have f2 := X1.cell 2 _ rfl
            have f3 := X1.cell 3 _ rfl
            have f4 := X1.cell 4 _ rfl
            go_wp2_with fail
            refine (D1 _ BX).mono ?_
            rintro e v1 ⟨rfl, b1⟩
            have X2 := (X1.below b1).alloc (.cells #[.int .i64 x1, .int .i64 (fa : Int), .int .i64 (a : Int), .bool true] 44)
            have BY' := bel_trans BX b1
            have BY := BY'.alloc BY'.size (.cells #[.int .i64 x1, .int .i64 (fa : Int), .int .i64 (a : Int), .bool true] 44)
            have Y1 := SBox.new v1 44 #[.int .i64 x1, .int .i64 (fa : Int), .int .i64 (a : Int), .bool true]
            clear f0 f1 f2 f3 f4
            have f2 := X2.cell 2 _ rfl
            go_wp2_with fail
            refine (D2 _ BY).mono ?_
            rintro e v2 ⟨rfl, b2⟩
            have X3 := (X2.below b2).alloc (.cells #[.int .i64 x2, .int .i64 (fb : Int), .int .i64 (b : Int), .bool true] 44)
            have Y2 := (Y1.below b2).alloc (.cells #[.int .i64 x2, .int .i64 (fb : Int), .int .i64 (b : Int), .bool true] 44)
            have BZ' := bel_trans BY b2
            have BZ := BZ'.alloc BZ'.size (.cells #[.int .i64 x2, .int .i64 (fb : Int), .int .i64 (b : Int), .bool true] 44)
            have Z1 := SBox.new v2 44 #[.int .i64 x2, .int .i64 (fb : Int), .int .i64 (b : Int), .bool true]
            clear f2
            have f0 := X3.cell 0 _ rfl
            have f1 := X3.cell 1 _ rfl
            have f2 := X3.cell 2 _ rfl
            have f3 := X3.cell 3 _ rfl
            have f4 := X3.cell 4 _ rfl
            have l2 := Y2.cell 2 _ rfl
            have l3 := Y2.cell 3 _ rfl
            have m2 := Z1.cell 2 _ rfl
            have m3 := Z1.cell 3 _ rfl
            obtain ⟨s0, s1, s2, s3⟩ := HQh.out i hi1.out _ BZ
            rw [HYi.out] at s0 s1 s2 s3
            simp only at s0 s1 s2 s3
            obtain ⟨t0, t1, t2, t3⟩ := HQh.out j hj1.out _ BZ
            rw [HYj.out] at t0 t1 t2 t3
            simp only at t0 t1 t2 t3
            have BW : Below w4.heap.size w4 ((v2.alloc (.cells #[.int .i64 x2, .int .i64 (fb : Int), .int .i64 (b : Int), .bool true] 44))) := by
              have p1 := hbw.alloc hbw.size (.cells #[.int .i64 3, .int .i64 x1, .int .i64 x2, .int .i64 (i : Int), .int .i64 (j : Int)] 24)
              have p2 := bel_trans p1 b1
              have p3 := p2.alloc p2.size (.cells #[.int .i64 x1, .int .i64 (fa : Int), .int .i64 (a : Int), .bool true] 44)
              have p4 := bel_trans p3 b2
              exact p4.alloc p4.size _
            go_wp2_with fail
            (try go_quiet (fail))
            (try go_wp2_with fail)
            refine ⟨⟨q + 1, by omega, by first | go_num | simp, by first | exact BW | exact below_drewN BW _⟩, by simp [intOf]; omega⟩
        · obtain rfl : q = m := by omega
          have jq : ¬ (q : Int) < (q : Int) := by omega
          go_wp2_with fail
          go_ret
          exact ⟨rfl, bel_trans B4 hbw⟩
    · rw [decide_eq_true h1] at HF
      obtain ⟨⟨f1, f2⟩, hf⟩ : ∃ y, formedL h = y := ⟨_, rfl⟩
      rw [hf] at RM h2
      simp only at RM h2
      have j2 : ((f2 : Int) != 0) = true := by rw [bne_iff_ne]; omega
      clear hf h2
      obtain ⟨ah, ch, rfl, ih, jh, kh, HCh⟩ := Th.reads
      go_enter Try.func8, Try.ntmps8
      go_wp2_with fail
      refine (HSh.out _ (Below.refl w.heap.size w)).mono ?_
      rintro e w1 ⟨rfl, b1⟩
      have B1 := bel_trans (Below.refl w.heap.size w) b1
      go_wp2_with fail
      refine (HF.out _ B1).mono ?_
      rintro e w2 ⟨rfl, b2⟩
      have B2 := bel_trans B1 b2
      go_wp2_with fail
      refine (RM.out _ B2).mono ?_
      rintro e w3 ⟨rfl, b3⟩
      have B3 := bel_trans B2 b3
      go_wp2_with fail
      go_ret
      exact ⟨rfl, B3⟩
  · skip
    obtain ⟨⟨f1, f2⟩, hf⟩ : ∃ y, formedL h = y := ⟨_, rfl⟩
    rw [hf] at RM
    simp only at RM
    clear hf
    rw [decide_eq_false h1] at HF
    obtain ⟨ah, ch, rfl, ih, jh, kh, HCh⟩ := Th.reads
    go_enter Try.func8, Try.ntmps8
    go_wp2_with fail
    refine (HSh.out _ (Below.refl w.heap.size w)).mono ?_
    rintro e w1 ⟨rfl, b1⟩
    have B1 := bel_trans (Below.refl w.heap.size w) b1
    go_wp2_with fail
    refine (HF.out _ B1).mono ?_
    rintro e w2 ⟨rfl, b2⟩
    have B2 := bel_trans B1 b2
    go_wp2_with fail
    refine (RM.out _ B2).mono ?_
    rintro e w3 ⟨rfl, b3⟩
    have B3 := bel_trans B2 b3
    go_wp2_with fail
    go_ret
    exact ⟨rfl, B3⟩
end Go.Proofs.Yteehpkkkagdckaa
