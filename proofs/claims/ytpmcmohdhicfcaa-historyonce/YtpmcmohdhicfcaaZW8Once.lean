/-
  The walk of HistoryOnce.
-/
import Derived.Test.YtpmcmohdhicfcaaZShown8
import Derived.Test.YtpmcmohdhicfcaaGE
import Derived.Deep.RegionHeld3
import Derived.BigQuiet
import Derived.Deep.QuietTactic
namespace Go.Proofs.Ytpmcmohdhicfcaa
set_option maxRecDepth 100000
open Go.RowKit
set_option linter.unusedVariables false
attribute [local go_sem] ba_size ba_append ba_get ba_extract
set_option maxHeartbeats 4000000 in
theorem once8_walk (C : P8C) (w : World) (vh : Value) (h : List Ev) (Th : IsEvs w vh h) (Gh : ∀ x ∈ h, goodE x) :
    Calls Try.prog 6 #[vh] w fun e w' => e = .returned (.bool true) ∧ Below w.heap.size w w' := by
  have HSh : Hid (∀ W, Below w.heap.size w W → Calls Try.prog 11 #[] W fun e w' => e = .returned (.bool true) ∧ Below W.heap.size W w') := fun W h => shown8_any C W
  have HF : Hid (∀ W, Below w.heap.size w W → Calls Try.prog 12 #[vh] W fun e w' => e = .returned (.bool (decide (h.length ≤ 300))) ∧ Below W.heap.size W w') := fun W hb => few8_any vh h W (Th.below hb)
  have HM : Hid (∀ W, Below w.heap.size w W → Calls Try.prog 13 #[vh] W fun e w' => e = .returned (.tuple #[.int .i64 ((formedL h).1 : Int), .int .i64 ((formedL h).2 : Int)]) ∧ Below W.heap.size W w') := fun W hb => C.formed h vh W (Th.below hb) Gh
  have HFn : Hid (∀ t W, goodI t → Below w.heap.size w W → Calls Try.prog 21 #[vh, .int .i64 t] W fun e w' => e = .returned (.tuple #[lifA (findP h t).1, .bool (findP h t).2]) ∧ Below W.heap.size W w') := fun t W gt hb => C.find h vh W t (Th.below hb) Gh gt
  have HGI : Hid (∀ k, k < h.length → goodI (ev h k).2.1) := fun k hk => by have := Gh _ (List.getElem_mem hk); rw [ev_get h k hk]; unfold goodE at this; exact this.2.1
  by_cases h1 : h.length ≤ 300
  · rw [decide_eq_true h1] at HF
    by_cases h2 : (formedL h).2 = 0
    · have hw := (formed_ok h).1 h2
      rw [formed_wf h hw] at HM
      simp only at HM
      have HWf : Hid (∀ k, k < h.length → ∃ f e, findL h (ev h k).2.1 = some ((ev h k).2.1, f, e, decide ((ev h e).1 = 4)) ∧ f ≤ k ∧ k ≤ e ∧ e < h.length ∧ ((ev h k).1 = 1 ↔ k = f) ∧ (4 ≤ (ev h k).1 ↔ k = e)) := fun k hk => by
        obtain ⟨f, e, a1, a2, a3, a4, a5, a6, _⟩ := wf_find hw hk
        exact ⟨f, e, a1, a2, a3, a4, a5, a6⟩
      have HVal : Hid (∀ k q, k < h.length → q < k → (ev h k).1 = 3 → (ev h q).1 = 3 → (ev h q).2.2.2 ≠ (ev h k).2.2.2) := fun k q hk hq a b => wf_vals hw hk a hq b
      clear hw h2
      obtain ⟨ah, ch, rfl, ih, jh, kh, HCh⟩ := Th.reads
      obtain ⟨n, hn⟩ : ∃ n, h.length = n := ⟨_, rfl⟩
      have HN : Hid (h.length = n) := hn
      simp only [hn] at HF HM HFn h1 ih kh ⊢
      clear hn
      go_enter Try.func6, Try.ntmps6
      go_wp2_with fail
      refine (HSh.out _ (Below.refl w.heap.size w)).mono ?_
      rintro e w1 ⟨rfl, b1⟩
      have B1 := bel_trans (Below.refl w.heap.size w) b1
      go_wp2_with fail
      refine (HF.out _ B1).mono ?_
      rintro e w2 ⟨rfl, b2⟩
      have B2 := bel_trans B1 b2
      go_wp2_with fail
      refine (HM.out _ B2).mono ?_
      rintro e w3 ⟨rfl, b3⟩
      have B3 := bel_trans B2 b3
      go_wp2_with fail
      go_loopw [7] (fun i wr => ∃ k : Nat, k ≤ n ∧ i = .int .i64 k ∧ Below w.heap.size w wr) (fun i _ => n - (intOf i).toNat)
      case atStart => exact ⟨0, Nat.zero_le _, rfl, B3⟩
      case round =>
        obtain ⟨k, hk, rfl, hbw⟩ := hrel
        by_cases hlt : k < n
        · have hk1 : k < h.length := by have := HN.out; omega
          obtain ⟨bb, off, rfl, HQ⟩ := HCh.out (by omega)
          obtain ⟨f, e, a1, a2, a3, a4, a5, a6⟩ := HWf.out k hk1
          have gx := HGI.out k hk1
          have hv := HVal.out k
          obtain ⟨m0, m1, _, _⟩ := HQ.out k hk1 _ hbw
          obtain ⟨⟨x0, x1, x2, x3⟩, hx⟩ : ∃ x, ev h k = x := ⟨_, rfl⟩
          have HX : Hid (ev h k = (x0, x1, x2, x3)) := hx
          rw [hx] at m0 m1 a1 a5 a6 gx hv
          simp only at m0 m1 a1 a5 a6 gx hv
          have D := fun W hb => HFn.out x1 W gx hb
          rw [findP_of a1] at D
          obtain ⟨c, hc⟩ : ∃ c, decide ((ev h e).1 = 4) = c := ⟨_, rfl⟩
          rw [hc] at D
          simp only at D
          have HV : Hid (∀ q, q < k → x0 = 3 → (ev h q).1 = 3 → (ev h q).2.2.2 ≠ x3) := fun q hq a b => hv q hk1 hq a b
          have j1 : ¬ (k : Int) < (f : Int) := by omega
          have j2 : ¬ (e : Int) < (k : Int) := by omega
          have j3 : ¬ (n : Int) ≤ (e : Int) := by have := HN.out; omega
          have j4 : ¬ k < f := by omega
          have j5 : ¬ e < k := by omega
          have j6 : ¬ n ≤ e := by omega
          have HE : Hid (((x0 == 1) = true ∧ ((k : Int) == (f : Int)) = true ∧ ¬ (4 : Int) ≤ x0 ∧ ((k : Int) == (e : Int)) = false) ∨ ((x0 == 1) = false ∧ ((k : Int) == (f : Int)) = false ∧ (4 : Int) ≤ x0 ∧ ((k : Int) == (e : Int)) = true) ∨ ((x0 == 1) = false ∧ ((k : Int) == (f : Int)) = false ∧ ¬ (4 : Int) ≤ x0 ∧ ((k : Int) == (e : Int)) = false)) := by
            by_cases p1 : x0 = 1
            · left
              have p2 : ¬ (4 : Int) ≤ x0 := by omega
              have p3 : ¬ k = e := fun hh => p2 (a6.2 hh)
              exact ⟨by rw [p1]; rfl, by rw [beq_iff_eq]; have := a5.1 p1; omega, p2, by rw [beq_eq_false_iff_ne]; omega⟩
            · have p4 : ¬ k = f := fun hh => p1 (a5.2 hh)
              right
              by_cases p2 : (4 : Int) ≤ x0
              · left; exact ⟨beq_eq_false_iff_ne.2 p1, by rw [beq_eq_false_iff_ne]; omega, p2, by rw [beq_iff_eq]; have := a6.1 p2; omega⟩
              · right
                have p3 : ¬ k = e := fun hh => p2 (a6.2 hh)
                exact ⟨beq_eq_false_iff_ne.2 p1, by rw [beq_eq_false_iff_ne]; omega, p2, by rw [beq_eq_false_iff_ne]; omega⟩
          clear hx hc a1 a2 a3 a4 a5 a6 gx hv
          have HNat : Hid (((k == f) = ((k : Int) == (f : Int))) ∧ ((k == e) = ((k : Int) == (e : Int)))) := ⟨by rw [Bool.eq_iff_iff, beq_iff_eq, beq_iff_eq]; omega, by rw [Bool.eq_iff_iff, beq_iff_eq, beq_iff_eq]; omega⟩
          obtain ⟨n1, n2⟩ := HNat.out
          rcases HE.out with ⟨e1, e2, e3, e4⟩ | ⟨e1, e2, e3, e4⟩ | ⟨e1, e2, e3, e4⟩
          all_goals
            rw [e2] at n1
            rw [e4] at n2
          · go_wp2_with fail
            refine (D _ hbw).mono ?_
            rintro e' w1' ⟨rfl, b1'⟩
            have B1' := bel_trans hbw b1'
            have X1 := SBox.new w1' 37 #[.int .i64 x1, .int .i64 (f : Int), .int .i64 (e : Int), .bool c]
            have B2' := B1'.alloc B1'.size (.cells #[.int .i64 x1, .int .i64 (f : Int), .int .i64 (e : Int), .bool c] 37)
            have y1 := X1.cell 1 _ rfl
            have y2 := X1.cell 2 _ rfl
            have y3 := X1.cell 3 _ rfl
            have y0 := X1.cell 0 _ rfl
            obtain ⟨o0, o1, _, _⟩ := HQ.out k hk1 _ B2'
            rw [HX.out] at o0 o1
            simp only at o0 o1
            go_wp2_with fail
            go_quiet (fail)
            go_wp2_with fail
            go_loopw [10] (fun i wq => ∃ q : Nat, q ≤ k ∧ i = .int .i64 q ∧ Below w.heap.size w wq) (fun i _ => k - (intOf i).toNat)
            case atStart => exact ⟨0, Nat.zero_le _, rfl, below_drewN B2' _⟩
            case round =>
              obtain ⟨q, hq, rfl, hbq⟩ := hrel
              by_cases hql : q < k
              · have hq1 : q < h.length := by omega
                have hqn : q < n := by omega
                have hv := HV.out q hql
                obtain ⟨r0, r1, _, r3⟩ := HQ.out k hk1 _ hbq
                obtain ⟨s0, s1, _, s3⟩ := HQ.out q hq1 _ hbq
                rw [HX.out] at r0 r1 r3
                simp only at r0 r1 r3
                obtain ⟨⟨z0, z1, z2, z3⟩, hz⟩ : ∃ x, ev h q = x := ⟨_, rfl⟩
                rw [hz] at s0 s1 s3 hv
                simp only at s0 s1 s3 hv
                clear hz
                have HC3 : Hid ((x0 == 3) = false ∨ ((x0 == 3) = true ∧ (z0 == 3) = false) ∨ ((x0 == 3) = true ∧ (z0 == 3) = true ∧ (x3 == z3) = false)) := by
                  by_cases p1 : x0 = 3
                  · right
                    by_cases p2 : z0 = 3
                    · right; exact ⟨by rw [p1]; rfl, by rw [p2]; rfl, beq_eq_false_iff_ne.2 (fun hh => hv p1 p2 hh.symm)⟩
                    · left; exact ⟨by rw [p1]; rfl, beq_eq_false_iff_ne.2 p2⟩
                  · left; exact beq_eq_false_iff_ne.2 p1
                clear hv
                rcases HC3.out with g1 | ⟨g1, g2⟩ | ⟨g1, g2, g3⟩
                · go_wp2_with fail
                  go_quiet (fail)
                  go_wp2_with fail
                  refine ⟨?relo0i0, ?meao0i0⟩
                  case relo0i0 => exact ⟨q + 1, by omega, by first | go_num | simp, below_drewN hbq _⟩
                  case meao0i0 => simp [intOf]; omega
                · go_wp2_with fail
                  go_quiet (fail)
                  go_wp2_with fail
                  refine ⟨?relo0i1, ?meao0i1⟩
                  case relo0i1 => exact ⟨q + 1, by omega, by first | go_num | simp, below_drewN hbq _⟩
                  case meao0i1 => simp [intOf]; omega
                · go_wp2_with fail
                  go_quiet (fail)
                  go_wp2_with fail
                  refine ⟨?relo0i2, ?meao0i2⟩
                  case relo0i2 => exact ⟨q + 1, by omega, by first | go_num | simp, below_drewN hbq _⟩
                  case meao0i2 => simp [intOf]; omega
              · obtain rfl : q = k := by omega
                go_wp2_with fail
                refine ⟨?relo0, ?meao0⟩
                case relo0 => exact ⟨q + 1, by omega, by first | go_num | simp, hbq⟩
                case meao0 => simp [intOf]; omega
          · go_wp2_with fail
            refine (D _ hbw).mono ?_
            rintro e' w1' ⟨rfl, b1'⟩
            have B1' := bel_trans hbw b1'
            have X1 := SBox.new w1' 37 #[.int .i64 x1, .int .i64 (f : Int), .int .i64 (e : Int), .bool c]
            have B2' := B1'.alloc B1'.size (.cells #[.int .i64 x1, .int .i64 (f : Int), .int .i64 (e : Int), .bool c] 37)
            have y1 := X1.cell 1 _ rfl
            have y2 := X1.cell 2 _ rfl
            have y3 := X1.cell 3 _ rfl
            have y0 := X1.cell 0 _ rfl
            obtain ⟨o0, o1, _, _⟩ := HQ.out k hk1 _ B2'
            rw [HX.out] at o0 o1
            simp only at o0 o1
            go_wp2_with fail
            go_quiet (fail)
            go_wp2_with fail
            go_loopw [10] (fun i wq => ∃ q : Nat, q ≤ k ∧ i = .int .i64 q ∧ Below w.heap.size w wq) (fun i _ => k - (intOf i).toNat)
            case atStart => exact ⟨0, Nat.zero_le _, rfl, below_drewN B2' _⟩
            case round =>
              obtain ⟨q, hq, rfl, hbq⟩ := hrel
              by_cases hql : q < k
              · have hq1 : q < h.length := by omega
                have hqn : q < n := by omega
                have hv := HV.out q hql
                obtain ⟨r0, r1, _, r3⟩ := HQ.out k hk1 _ hbq
                obtain ⟨s0, s1, _, s3⟩ := HQ.out q hq1 _ hbq
                rw [HX.out] at r0 r1 r3
                simp only at r0 r1 r3
                obtain ⟨⟨z0, z1, z2, z3⟩, hz⟩ : ∃ x, ev h q = x := ⟨_, rfl⟩
                rw [hz] at s0 s1 s3 hv
                simp only at s0 s1 s3 hv
                clear hz
                have HC3 : Hid ((x0 == 3) = false ∨ ((x0 == 3) = true ∧ (z0 == 3) = false) ∨ ((x0 == 3) = true ∧ (z0 == 3) = true ∧ (x3 == z3) = false)) := by
                  by_cases p1 : x0 = 3
                  · right
                    by_cases p2 : z0 = 3
                    · right; exact ⟨by rw [p1]; rfl, by rw [p2]; rfl, beq_eq_false_iff_ne.2 (fun hh => hv p1 p2 hh.symm)⟩
                    · left; exact ⟨by rw [p1]; rfl, beq_eq_false_iff_ne.2 p2⟩
                  · left; exact beq_eq_false_iff_ne.2 p1
                clear hv
                rcases HC3.out with g1 | ⟨g1, g2⟩ | ⟨g1, g2, g3⟩
                · go_wp2_with fail
                  go_quiet (fail)
                  go_wp2_with fail
                  refine ⟨?relo1i0, ?meao1i0⟩
                  case relo1i0 => exact ⟨q + 1, by omega, by first | go_num | simp, below_drewN hbq _⟩
                  case meao1i0 => simp [intOf]; omega
                · go_wp2_with fail
                  go_quiet (fail)
                  go_wp2_with fail
                  refine ⟨?relo1i1, ?meao1i1⟩
                  case relo1i1 => exact ⟨q + 1, by omega, by first | go_num | simp, below_drewN hbq _⟩
                  case meao1i1 => simp [intOf]; omega
                · go_wp2_with fail
                  go_quiet (fail)
                  go_wp2_with fail
                  refine ⟨?relo1i2, ?meao1i2⟩
                  case relo1i2 => exact ⟨q + 1, by omega, by first | go_num | simp, below_drewN hbq _⟩
                  case meao1i2 => simp [intOf]; omega
              · obtain rfl : q = k := by omega
                go_wp2_with fail
                refine ⟨?relo1, ?meao1⟩
                case relo1 => exact ⟨q + 1, by omega, by first | go_num | simp, hbq⟩
                case meao1 => simp [intOf]; omega
          · go_wp2_with fail
            refine (D _ hbw).mono ?_
            rintro e' w1' ⟨rfl, b1'⟩
            have B1' := bel_trans hbw b1'
            have X1 := SBox.new w1' 37 #[.int .i64 x1, .int .i64 (f : Int), .int .i64 (e : Int), .bool c]
            have B2' := B1'.alloc B1'.size (.cells #[.int .i64 x1, .int .i64 (f : Int), .int .i64 (e : Int), .bool c] 37)
            have y1 := X1.cell 1 _ rfl
            have y2 := X1.cell 2 _ rfl
            have y3 := X1.cell 3 _ rfl
            have y0 := X1.cell 0 _ rfl
            obtain ⟨o0, o1, _, _⟩ := HQ.out k hk1 _ B2'
            rw [HX.out] at o0 o1
            simp only at o0 o1
            go_wp2_with fail
            go_quiet (fail)
            go_wp2_with fail
            go_loopw [10] (fun i wq => ∃ q : Nat, q ≤ k ∧ i = .int .i64 q ∧ Below w.heap.size w wq) (fun i _ => k - (intOf i).toNat)
            case atStart => exact ⟨0, Nat.zero_le _, rfl, below_drewN B2' _⟩
            case round =>
              obtain ⟨q, hq, rfl, hbq⟩ := hrel
              by_cases hql : q < k
              · have hq1 : q < h.length := by omega
                have hqn : q < n := by omega
                have hv := HV.out q hql
                obtain ⟨r0, r1, _, r3⟩ := HQ.out k hk1 _ hbq
                obtain ⟨s0, s1, _, s3⟩ := HQ.out q hq1 _ hbq
                rw [HX.out] at r0 r1 r3
                simp only at r0 r1 r3
                obtain ⟨⟨z0, z1, z2, z3⟩, hz⟩ : ∃ x, ev h q = x := ⟨_, rfl⟩
                rw [hz] at s0 s1 s3 hv
                simp only at s0 s1 s3 hv
                clear hz
                have HC3 : Hid ((x0 == 3) = false ∨ ((x0 == 3) = true ∧ (z0 == 3) = false) ∨ ((x0 == 3) = true ∧ (z0 == 3) = true ∧ (x3 == z3) = false)) := by
                  by_cases p1 : x0 = 3
                  · right
                    by_cases p2 : z0 = 3
                    · right; exact ⟨by rw [p1]; rfl, by rw [p2]; rfl, beq_eq_false_iff_ne.2 (fun hh => hv p1 p2 hh.symm)⟩
                    · left; exact ⟨by rw [p1]; rfl, beq_eq_false_iff_ne.2 p2⟩
                  · left; exact beq_eq_false_iff_ne.2 p1
                clear hv
                rcases HC3.out with g1 | ⟨g1, g2⟩ | ⟨g1, g2, g3⟩
                · go_wp2_with fail
                  go_quiet (fail)
                  go_wp2_with fail
                  refine ⟨?relo2i0, ?meao2i0⟩
                  case relo2i0 => exact ⟨q + 1, by omega, by first | go_num | simp, below_drewN hbq _⟩
                  case meao2i0 => simp [intOf]; omega
                · go_wp2_with fail
                  go_quiet (fail)
                  go_wp2_with fail
                  refine ⟨?relo2i1, ?meao2i1⟩
                  case relo2i1 => exact ⟨q + 1, by omega, by first | go_num | simp, below_drewN hbq _⟩
                  case meao2i1 => simp [intOf]; omega
                · go_wp2_with fail
                  go_quiet (fail)
                  go_wp2_with fail
                  refine ⟨?relo2i2, ?meao2i2⟩
                  case relo2i2 => exact ⟨q + 1, by omega, by first | go_num | simp, below_drewN hbq _⟩
                  case meao2i2 => simp [intOf]; omega
              · obtain rfl : q = k := by omega
                go_wp2_with fail
                refine ⟨?relo2, ?meao2⟩
                case relo2 => exact ⟨q + 1, by omega, by first | go_num | simp, hbq⟩
                case meao2 => simp [intOf]; omega
        · go_wp2_with fail
          go_ret
          exact ⟨rfl, hbw⟩
    · obtain ⟨⟨f1, f2⟩, hf⟩ : ∃ y, formedL h = y := ⟨_, rfl⟩
      rw [hf] at HM h2
      simp only at HM h2
      have j2 : ((f2 : Int) != 0) = true := by rw [bne_iff_ne]; omega
      clear hf h2
      obtain ⟨ah, ch, rfl, ih, jh, kh, HCh⟩ := Th.reads
      go_enter Try.func6, Try.ntmps6
      go_wp2_with fail
      refine (HSh.out _ (Below.refl w.heap.size w)).mono ?_
      rintro e w1 ⟨rfl, b1⟩
      have B1 := bel_trans (Below.refl w.heap.size w) b1
      go_wp2_with fail
      refine (HF.out _ B1).mono ?_
      rintro e w2 ⟨rfl, b2⟩
      have B2 := bel_trans B1 b2
      go_wp2_with fail
      refine (HM.out _ B2).mono ?_
      rintro e w3 ⟨rfl, b3⟩
      have B3 := bel_trans B2 b3
      go_wp2_with fail
      go_ret
      exact ⟨rfl, B3⟩
  · obtain ⟨⟨f1, f2⟩, hf⟩ : ∃ y, formedL h = y := ⟨_, rfl⟩
    rw [hf] at HM
    simp only at HM
    clear hf
    rw [decide_eq_false h1] at HF
    obtain ⟨ah, ch, rfl, ih, jh, kh, HCh⟩ := Th.reads
    go_enter Try.func6, Try.ntmps6
    go_wp2_with fail
    refine (HSh.out _ (Below.refl w.heap.size w)).mono ?_
    rintro e w1 ⟨rfl, b1⟩
    have B1 := bel_trans (Below.refl w.heap.size w) b1
    go_wp2_with fail
    refine (HF.out _ B1).mono ?_
    rintro e w2 ⟨rfl, b2⟩
    have B2 := bel_trans B1 b2
    go_wp2_with fail
    refine (HM.out _ B2).mono ?_
    rintro e w3 ⟨rfl, b3⟩
    have B3 := bel_trans B2 b3
    go_wp2_with fail
    go_ret
    exact ⟨rfl, B3⟩
end Go.Proofs.Ytpmcmohdhicfcaa
