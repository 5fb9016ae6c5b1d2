/-
  What store.Same answers: rows, and its closures.
-/
import Derived.Test.YtngllioidfffdaaZP6Same
import Derived.Test.YtngllioidfffdaaZR17Has
import Derived.Test.YtngllioidfffdaaZFloat4
namespace Go.Proofs.Ytngllioidfffdaa
set_option maxRecDepth 100000
open Go.RowKit
set_option linter.unusedVariables false
set_option linter.unusedSimpArgs false
attribute [local go_sem] ba_size
theorem prowsE_any (w : World) : Calls Try.prog 42 #[.func (.func 43) #[] #[]] w fun e w' => ∃ b, e = .returned (.func (.func 63) #[] #[.pointer (some ⟨b, 0, none⟩)]) ∧ Below w.heap.size w w' ∧ SBox w' b 77 #[.func (.func 43) #[] #[]] := by
  go_enter Try.func42, Try.ntmps42
  go_wp2_with fail
  go_ret
  exact ⟨_, rfl, bel1 w _, SBox.new w _ _⟩
theorem prowsC_any (w : World) : Calls Try.prog 44 #[.func (.func 45) #[] #[]] w fun e w' => ∃ b, e = .returned (.func (.func 64) #[] #[.pointer (some ⟨b, 0, none⟩)]) ∧ Below w.heap.size w w' ∧ SBox w' b 80 #[.func (.func 45) #[] #[]] := by
  go_enter Try.func44, Try.ntmps44
  go_wp2_with fail
  go_ret
  exact ⟨_, rfl, bel1 w _, SBox.new w _ _⟩
theorem psame1_any (a b : List UInt8) (w : World) : Calls Try.prog 45 #[.string ⟨a.toArray⟩, .string ⟨b.toArray⟩] w fun e w' => e = .returned (.bool (decide (a = b))) ∧ w' = w := by
  have hd : decide (a = b) = (a == b) := by by_cases h : a = b <;> simp [h]
  rw [hd]
  go_enter Try.func45, Try.ntmps45
  go_wp2_with fail
  go_ret
  first | exact ⟨rfl, rfl⟩ | (refine ⟨?_, rfl⟩; rw [← hd]; rfl)
set_option maxHeartbeats 2000000 in
theorem pcloE_any (b : Nat) (vo vh vc uo uh uc : Value) (H' G' : List Value) (x y : Sd) (w : World) (hS : StIn w vo vh vc H' x) (hR : StIn w uo uh uc G' y) (hb : SBox w b 77 #[.func (.func 43) #[] #[]]) :
    Calls Try.prog 63 #[vh, uh, .pointer (some ⟨b, 0, none⟩)] w fun e w' => e = .returned (.bool (decide (x.2.1 = y.2.1))) ∧ Below w.heap.size w w' := by
  obtain ⟨ao, no, co, ah, nh, ch, ac, nc, cc, rfl, rfl, rfl⟩ := hS.slices
  obtain ⟨bo, mo, dq, bh, mh, dh, bc, mc, dc, rfl, rfl, rfl⟩ := hR.slices
  obtain ⟨x1, x2, x3⟩ := x
  obtain ⟨y1, y2, y3⟩ := y
  obtain ⟨_, ⟨n2, h2a, h2b, h2c⟩, _⟩ := hS.nums
  obtain ⟨_, ⟨m2, g2a, g2b, g2c⟩, _⟩ := hR.nums
  simp only at n2 m2
  have HN : Hid (x2.length = nh ∧ y2.length = mh) := ⟨n2, m2⟩
  have HS := Lib.hid hS
  have HR := Lib.hid hR
  have HBX := Lib.hid hb
  clear hS hR hb n2 m2
  simp only
  by_cases h2 : nh = mh
  · subst h2
    obtain ⟨n, hn⟩ : ∃ n, n = nh := ⟨_, rfl⟩
    subst hn
    have hne : ((n : Int) != (n : Int)) = false := by simp
    go_enter Try.func63, Try.ntmps63
    go_wp2_with fail
    go_loopw [14] (fun i wr => ∃ k : Nat, k ≤ n ∧ i = .int .i64 k ∧ Hid (x2.take k = y2.take k) ∧ Below w.heap.size w wr) (fun i _ => n - (intOf i).toNat)
    case atStart => exact ⟨0, Nat.zero_le _, rfl, rfl, Below.refl _ _⟩
    case round =>
      obtain ⟨k, hk, rfl, HE, B0⟩ := hrel
      by_cases hlt : k < n
      · have hk1 : k < x2.length := by rw [HN.out.1]; exact hlt
        have hk2 : k < y2.length := by rw [HN.out.2]; exact hlt
        obtain ⟨b1, o1, a1, n1, c1, rfl, p1, q1⟩ := hs_at17 (HS.out.below B0) rfl k hk1
        obtain ⟨b2, o2, a2, n2, c2, rfl, p2, q2⟩ := hs_at17 (HR.out.below B0) rfl k hk2
        simp only at q1 q2
        have X := HBX.out.below B0
        have jk : (k : Int) < (n : Int) := by omega
        go_wp2_with fail
        refine wp_region_any (by kernel_rfl) ?_
        change wpAny _ _ _ _ _ _ _ (World.drew _)
        generalize hwd : World.drew _ = wd
        have BD : Below wr.heap.size wr wd := by rw [← hwd]; exact (Below.refl _ _).drew
        clear hwd
        replace X := X.below BD
        replace B0 := B0.trans (BD.mono B0.size)
        replace p1 := cell_bel BD p1
        replace p2 := cell_bel BD p2
        replace q1 := Lib.hid (q1.below BD)
        replace q2 := Lib.hid (q2.below BD)
        clear BD
        refine any_of_C (C := (fun V => SBox V b 77 #[.func (.func 43) #[] #[]] ∧ V.cell? ⟨b1, o1 + k, none⟩ = some (.slice a1 n1 c1) ∧ V.cell? ⟨b2, o2 + k, none⟩ = some (.slice a2 n2 c2))) 10 _ _ _ _ ?_
        refine takeCC [9, 10] (i := 0) (v := .func (.func 43) #[] #[]) rfl (by kernel_rfl) (by kernel_rfl) (by kernel_rfl) (by kernel_rfl) (by kernel_rfl) (by kernel_rfl) (fun _ _ _ h => h) (Or.inl ⟨by kernel_rfl, fun V hV => by have hq := hV.1.cell 0 _ rfl; have hV2 := hV.2.1; have hV3 := hV.2.2; go_simp⟩) ?_
        refine takeCC [3, 4, 9, 10] (i := 1) (v := .slice (some ⟨b1, o1, none⟩) n ch) rfl (by kernel_rfl) (by kernel_rfl) (by kernel_rfl) (by kernel_rfl) (by kernel_rfl) (by kernel_rfl) (fun _ _ _ h => h) (Or.inl ⟨by kernel_rfl, fun V hV => by have hq := hV.1.cell 0 _ rfl; have hV2 := hV.2.1; have hV3 := hV.2.2; go_simp⟩) ?_
        refine takeCC [3, 4, 9, 10] (i := 2) (v := .int .i64 (k : Int)) rfl (by kernel_rfl) (by kernel_rfl) (by kernel_rfl) (by kernel_rfl) (by kernel_rfl) (by kernel_rfl) (fun _ _ _ h => h) (Or.inl ⟨by kernel_rfl, fun V hV => by have hq := hV.1.cell 0 _ rfl; have hV2 := hV.2.1; have hV3 := hV.2.2; go_simp⟩) ?_
        refine takeCC [4, 9, 10] (i := 3) (v := .pointer (some ⟨b1, o1 + k, none⟩)) rfl (by kernel_rfl) (by kernel_rfl) (by kernel_rfl) (by kernel_rfl) (by kernel_rfl) (by kernel_rfl) (fun _ _ _ h => h) (Or.inl ⟨by kernel_rfl, fun V hV => by have hq := hV.1.cell 0 _ rfl; have hV2 := hV.2.1; have hV3 := hV.2.2; go_simp⟩) ?_
        refine takeCC [9, 10] (i := 4) (v := .slice a1 n1 c1) rfl (by kernel_rfl) (by kernel_rfl) (by kernel_rfl) (by kernel_rfl) (by kernel_rfl) (by kernel_rfl) (fun _ _ _ h => h) (Or.inl ⟨by kernel_rfl, fun V hV => by have hq := hV.1.cell 0 _ rfl; have hV2 := hV.2.1; have hV3 := hV.2.2; go_simp⟩) ?_
        refine takeCC [7, 8, 9, 10] (i := 5) (v := .slice (some ⟨b2, o2, none⟩) n dh) rfl (by kernel_rfl) (by kernel_rfl) (by kernel_rfl) (by kernel_rfl) (by kernel_rfl) (by kernel_rfl) (fun _ _ _ h => h) (Or.inl ⟨by kernel_rfl, fun V hV => by have hq := hV.1.cell 0 _ rfl; have hV2 := hV.2.1; have hV3 := hV.2.2; go_simp⟩) ?_
        refine takeCC [7, 8, 9, 10] (i := 6) (v := .int .i64 (k : Int)) rfl (by kernel_rfl) (by kernel_rfl) (by kernel_rfl) (by kernel_rfl) (by kernel_rfl) (by kernel_rfl) (fun _ _ _ h => h) (Or.inl ⟨by kernel_rfl, fun V hV => by have hq := hV.1.cell 0 _ rfl; have hV2 := hV.2.1; have hV3 := hV.2.2; go_simp⟩) ?_
        refine takeCC [8, 9, 10] (i := 7) (v := .pointer (some ⟨b2, o2 + k, none⟩)) rfl (by kernel_rfl) (by kernel_rfl) (by kernel_rfl) (by kernel_rfl) (by kernel_rfl) (by kernel_rfl) (fun _ _ _ h => h) (Or.inl ⟨by kernel_rfl, fun V hV => by have hq := hV.1.cell 0 _ rfl; have hV2 := hV.2.1; have hV3 := hV.2.2; go_simp⟩) ?_
        refine takeCC [9, 10] (i := 8) (v := .slice a2 n2 c2) rfl (by kernel_rfl) (by kernel_rfl) (by kernel_rfl) (by kernel_rfl) (by kernel_rfl) (by kernel_rfl) (fun _ _ _ h => h) (Or.inl ⟨by kernel_rfl, fun V hV => by have hq := hV.1.cell 0 _ rfl; have hV2 := hV.2.1; have hV3 := hV.2.2; go_simp⟩) ?_
        refine consC (i := 9) (by kernel_rfl) (by kernel_rfl) ⟨X, p1, p2⟩ rfl (fun K hK => ?_)
        go_wp2_with fail
        refine (psame6_any _ _ x2[k] y2[k] _ q1.out q2.out).mono ?_
        rintro e1 w3 ⟨rfl, bb⟩
        replace X := X.below bb
        replace B0 := B0.trans (bb.mono B0.size)
        replace p1 := cell_bel bb p1
        replace p2 := cell_bel bb p2
        clear bb
        by_cases hx : x2[k] = y2[k]
        · rw [decide_eq_true hx]
          have HE2 : Hid (x2.take (k + 1) = y2.take (k + 1)) := take_next_eq hk1 hk2 HE.out hx
          clear hx
          go_wp2_with fail
          refine lastC (by kernel_rfl) (by kernel_rfl) ⟨X, p1, p2⟩ (of_decide_eq_true (by kernel_rfl)) ?_
          refine any_seqI [10] [_] _ _ _ rfl (by kernel_rfl) ?_
          have HB2 := Lib.hid B0
          go_wp2_with fail
          go_roundw
          case rel => exact ⟨k + 1, by omega, by first | go_num | simp, HE2, HB2.out⟩
          case measure => simp [intOf]; omega
        · rw [decide_eq_false hx]
          have HF : Hid (decide (x2 = y2) = false) := decide_eq_false (fun e => by subst e; exact hx rfl)
          clear hx
          go_wp2_with fail
          refine lastC (by kernel_rfl) (by kernel_rfl) ⟨X, p1, p2⟩ (of_decide_eq_true (by kernel_rfl)) ?_
          refine any_seqI [10] [_] _ _ _ rfl (by kernel_rfl) ?_
          go_wp2_with fail
          go_ret
          rw [HF.out]
          exact ⟨rfl, B0⟩
      · obtain rfl : k = n := by omega
        have jk : ¬ (k : Int) < (k : Int) := by omega
        have HF : Hid (decide (x2 = y2) = true) := decide_eq_true (by have := HE.out; rwa [List.take_of_length_le (by rw [HN.out.1]; exact Nat.le_refl _), List.take_of_length_le (by rw [HN.out.2]; exact Nat.le_refl _)] at this)
        go_wp2_with fail
        go_ret
        rw [HF.out]
        exact ⟨rfl, B0⟩
  · rw [decide_eq_false (fun e => h2 (by rw [← HN.out.1, ← HN.out.2, e]))]
    have hne : ((nh : Int) != (mh : Int)) = true := by simp; omega
    have hne2 : ¬ (nh : Int) = (mh : Int) := by omega
    clear h2
    go_enter Try.func63, Try.ntmps63
    go_wp2_with fail
    go_ret
    exact ⟨rfl, Below.refl _ _⟩
set_option maxHeartbeats 2000000 in
theorem pcloC_any (b : Nat) (vo vh vc uo uh uc : Value) (H' G' : List Value) (x y : Sd) (w : World) (hS : StIn w vo vh vc H' x) (hR : StIn w uo uh uc G' y) (hb : SBox w b 80 #[.func (.func 45) #[] #[]]) :
    Calls Try.prog 64 #[vc, uc, .pointer (some ⟨b, 0, none⟩)] w fun e w' => e = .returned (.bool (decide (x.2.2 = y.2.2))) ∧ Below w.heap.size w w' := by
  obtain ⟨ao, no, co, ah, nh, ch, ac, nc, cc, rfl, rfl, rfl⟩ := hS.slices
  obtain ⟨bo, mo, dq, bh, mh, dh, bc, mc, dc, rfl, rfl, rfl⟩ := hR.slices
  obtain ⟨x1, x2, x3⟩ := x
  obtain ⟨y1, y2, y3⟩ := y
  obtain ⟨_, _, ⟨n2, h2a, h2b, h2c⟩⟩ := hS.nums
  obtain ⟨_, _, ⟨m2, g2a, g2b, g2c⟩⟩ := hR.nums
  simp only at n2 m2
  have HN : Hid (x3.length = nc ∧ y3.length = mc) := ⟨n2, m2⟩
  have HS := Lib.hid hS
  have HR := Lib.hid hR
  have HBX := Lib.hid hb
  clear hS hR hb n2 m2
  simp only
  by_cases h2 : nc = mc
  · subst h2
    obtain ⟨n, hn⟩ : ∃ n, n = nc := ⟨_, rfl⟩
    subst hn
    have hne : ((n : Int) != (n : Int)) = false := by simp
    go_enter Try.func64, Try.ntmps64
    go_wp2_with fail
    go_loopw [14] (fun i wr => ∃ k : Nat, k ≤ n ∧ i = .int .i64 k ∧ Hid (x3.take k = y3.take k) ∧ Below w.heap.size w wr) (fun i _ => n - (intOf i).toNat)
    case atStart => exact ⟨0, Nat.zero_le _, rfl, rfl, Below.refl _ _⟩
    case round =>
      obtain ⟨k, hk, rfl, HE, B0⟩ := hrel
      by_cases hlt : k < n
      · have hk1 : k < x3.length := by rw [HN.out.1]; exact hlt
        have hk2 : k < y3.length := by rw [HN.out.2]; exact hlt
        obtain ⟨_, _, e1, _, _, _, HC1⟩ := (HS.out.below B0).ce.some_at
        simp only [Value.slice.injEq] at e1
        obtain ⟨rfl, e9, rfl⟩ := e1
        clear e9
        obtain ⟨b1, o1, rfl, _, p1⟩ := HC1.out k hk1
        obtain ⟨_, _, e1, _, _, _, HC2⟩ := (HR.out.below B0).ce.some_at
        simp only [Value.slice.injEq] at e1
        obtain ⟨rfl, e9, rfl⟩ := e1
        clear e9
        obtain ⟨b2, o2, rfl, _, p2⟩ := HC2.out k hk2
        clear HC1 HC2
        simp only at p1 p2
        obtain ⟨t1, ht1⟩ : ∃ t, x3[k] = t := ⟨_, rfl⟩
        obtain ⟨t2, ht2⟩ : ∃ t, y3[k] = t := ⟨_, rfl⟩
        have HT1 : Hid (x3[k] = t1) := ht1
        have HT2 : Hid (y3[k] = t2) := ht2
        rw [ht1] at p1
        rw [ht2] at p2
        clear ht1 ht2
        have X := HBX.out.below B0
        have jk : (k : Int) < (n : Int) := by omega
        go_wp2_with fail
        refine wp_region_any (by kernel_rfl) ?_
        change wpAny _ _ _ _ _ _ _ (World.drew _)
        generalize hwd : World.drew _ = wd
        have BD : Below wr.heap.size wr wd := by rw [← hwd]; exact (Below.refl _ _).drew
        clear hwd
        replace X := X.below BD
        replace B0 := B0.trans (BD.mono B0.size)
        replace p1 := cell_bel BD p1
        replace p2 := cell_bel BD p2
        clear BD
        refine any_of_C (C := (fun V => SBox V b 80 #[.func (.func 45) #[] #[]] ∧ V.cell? ⟨b1, o1 + k, none⟩ = some (.string ⟨t1.toArray⟩) ∧ V.cell? ⟨b2, o2 + k, none⟩ = some (.string ⟨t2.toArray⟩))) 10 _ _ _ _ ?_
        refine takeCC [9, 10] (i := 0) (v := .func (.func 45) #[] #[]) rfl (by kernel_rfl) (by kernel_rfl) (by kernel_rfl) (by kernel_rfl) (by kernel_rfl) (by kernel_rfl) (fun _ _ _ h => h) (Or.inl ⟨by kernel_rfl, fun V hV => by have hq := hV.1.cell 0 _ rfl; have hV2 := hV.2.1; have hV3 := hV.2.2; go_simp⟩) ?_
        refine takeCC [3, 4, 9, 10] (i := 1) (v := .slice (some ⟨b1, o1, none⟩) n cc) rfl (by kernel_rfl) (by kernel_rfl) (by kernel_rfl) (by kernel_rfl) (by kernel_rfl) (by kernel_rfl) (fun _ _ _ h => h) (Or.inl ⟨by kernel_rfl, fun V hV => by have hq := hV.1.cell 0 _ rfl; have hV2 := hV.2.1; have hV3 := hV.2.2; go_simp⟩) ?_
        refine takeCC [3, 4, 9, 10] (i := 2) (v := .int .i64 (k : Int)) rfl (by kernel_rfl) (by kernel_rfl) (by kernel_rfl) (by kernel_rfl) (by kernel_rfl) (by kernel_rfl) (fun _ _ _ h => h) (Or.inl ⟨by kernel_rfl, fun V hV => by have hq := hV.1.cell 0 _ rfl; have hV2 := hV.2.1; have hV3 := hV.2.2; go_simp⟩) ?_
        refine takeCC [4, 9, 10] (i := 3) (v := .pointer (some ⟨b1, o1 + k, none⟩)) rfl (by kernel_rfl) (by kernel_rfl) (by kernel_rfl) (by kernel_rfl) (by kernel_rfl) (by kernel_rfl) (fun _ _ _ h => h) (Or.inl ⟨by kernel_rfl, fun V hV => by have hq := hV.1.cell 0 _ rfl; have hV2 := hV.2.1; have hV3 := hV.2.2; go_simp⟩) ?_
        refine takeCC [9, 10] (i := 4) (v := .string ⟨t1.toArray⟩) rfl (by kernel_rfl) (by kernel_rfl) (by kernel_rfl) (by kernel_rfl) (by kernel_rfl) (by kernel_rfl) (fun _ _ _ h => h) (Or.inl ⟨by kernel_rfl, fun V hV => by have hq := hV.1.cell 0 _ rfl; have hV2 := hV.2.1; have hV3 := hV.2.2; go_simp⟩) ?_
        refine takeCC [7, 8, 9, 10] (i := 5) (v := .slice (some ⟨b2, o2, none⟩) n dc) rfl (by kernel_rfl) (by kernel_rfl) (by kernel_rfl) (by kernel_rfl) (by kernel_rfl) (by kernel_rfl) (fun _ _ _ h => h) (Or.inl ⟨by kernel_rfl, fun V hV => by have hq := hV.1.cell 0 _ rfl; have hV2 := hV.2.1; have hV3 := hV.2.2; go_simp⟩) ?_
        refine takeCC [7, 8, 9, 10] (i := 6) (v := .int .i64 (k : Int)) rfl (by kernel_rfl) (by kernel_rfl) (by kernel_rfl) (by kernel_rfl) (by kernel_rfl) (by kernel_rfl) (fun _ _ _ h => h) (Or.inl ⟨by kernel_rfl, fun V hV => by have hq := hV.1.cell 0 _ rfl; have hV2 := hV.2.1; have hV3 := hV.2.2; go_simp⟩) ?_
        refine takeCC [8, 9, 10] (i := 7) (v := .pointer (some ⟨b2, o2 + k, none⟩)) rfl (by kernel_rfl) (by kernel_rfl) (by kernel_rfl) (by kernel_rfl) (by kernel_rfl) (by kernel_rfl) (fun _ _ _ h => h) (Or.inl ⟨by kernel_rfl, fun V hV => by have hq := hV.1.cell 0 _ rfl; have hV2 := hV.2.1; have hV3 := hV.2.2; go_simp⟩) ?_
        refine takeCC [9, 10] (i := 8) (v := .string ⟨t2.toArray⟩) rfl (by kernel_rfl) (by kernel_rfl) (by kernel_rfl) (by kernel_rfl) (by kernel_rfl) (by kernel_rfl) (fun _ _ _ h => h) (Or.inl ⟨by kernel_rfl, fun V hV => by have hq := hV.1.cell 0 _ rfl; have hV2 := hV.2.1; have hV3 := hV.2.2; go_simp⟩) ?_
        refine consC (i := 9) (by kernel_rfl) (by kernel_rfl) ⟨X, p1, p2⟩ rfl (fun K hK => ?_)
        go_wp2_with fail
        refine (psame1_any t1 t2 _).mono ?_
        rintro e1 w3 ⟨rfl, hw3⟩
        obtain rfl : wd = w3 := hw3.symm
        by_cases hx : t1 = t2
        · rw [decide_eq_true hx]
          have HE2 : Hid (x3.take (k + 1) = y3.take (k + 1)) := take_next_eq hk1 hk2 HE.out (by rw [HT1.out, HT2.out]; exact hx)
          clear hx
          go_wp2_with fail
          refine lastC (by kernel_rfl) (by kernel_rfl) ⟨X, p1, p2⟩ (of_decide_eq_true (by kernel_rfl)) ?_
          refine any_seqI [10] [_] _ _ _ rfl (by kernel_rfl) ?_
          have HB2 := Lib.hid B0
          go_wp2_with fail
          go_roundw
          case rel => exact ⟨k + 1, by omega, by first | go_num | simp, HE2, HB2.out⟩
          case measure => simp [intOf]; omega
        · rw [decide_eq_false hx]
          have HF : Hid (decide (x3 = y3) = false) := decide_eq_false (fun e => by subst e; exact hx (HT1.out.symm.trans HT2.out))
          clear hx
          go_wp2_with fail
          refine lastC (by kernel_rfl) (by kernel_rfl) ⟨X, p1, p2⟩ (of_decide_eq_true (by kernel_rfl)) ?_
          refine any_seqI [10] [_] _ _ _ rfl (by kernel_rfl) ?_
          go_wp2_with fail
          go_ret
          rw [HF.out]
          exact ⟨rfl, B0⟩
      · obtain rfl : k = n := by omega
        have jk : ¬ (k : Int) < (k : Int) := by omega
        have HF : Hid (decide (x3 = y3) = true) := decide_eq_true (by have := HE.out; rwa [List.take_of_length_le (by rw [HN.out.1]; exact Nat.le_refl _), List.take_of_length_le (by rw [HN.out.2]; exact Nat.le_refl _)] at this)
        go_wp2_with fail
        go_ret
        rw [HF.out]
        exact ⟨rfl, B0⟩
  · rw [decide_eq_false (fun e => h2 (by rw [← HN.out.1, ← HN.out.2, e]))]
    have hne : ((nc : Int) != (mc : Int)) = true := by simp; omega
    have hne2 : ¬ (nc : Int) = (mc : Int) := by omega
    clear h2
    go_enter Try.func64, Try.ntmps64
    go_wp2_with fail
    go_ret
    exact ⟨rfl, Below.refl _ _⟩
set_option maxHeartbeats 4000000 in
theorem psame17_any (s p s' p' : List UInt8) (r f r' f' : Int) (o o' : Bool) (vo vh vc uo uh uc : Value) (H' G' : List Value) (x y : Sd) (w : World) (hS : StIn w vo vh vc H' x) (hR : StIn w uo uh uc G' y) :
    Calls Try.prog 24 #[.agg (stC (s, p, r, f, o) vo vh vc), .agg (stC (s', p', r', f', o') uo uh uc)] w fun e w' => e = .returned (.bool (eqSd x y && decide ((s, p, r, f, o) = (s', p', r', f', o')))) ∧ Below w.heap.size w w' := by
  obtain ⟨ao, no, co, ah, nh, ch, ac, nc, cc, rfl, rfl, rfl⟩ := hS.slices
  obtain ⟨bo, mo, dq, bh, mh, dh, bc, mc, dc, rfl, rfl, rfl⟩ := hR.slices
  have HS := Lib.hid hS
  have HR := Lib.hid hR
  clear hS hR
  have X := (SBox.new w 28 #[.string ⟨s.toArray⟩, .string ⟨p.toArray⟩, .int .i64 r, .int .i64 f, .bool o, .slice ao no co, .slice ah nh ch, .slice ac nc cc]).alloc (.cells #[.string ⟨s'.toArray⟩, .string ⟨p'.toArray⟩, .int .i64 r', .int .i64 f', .bool o', .slice bo mo dq, .slice bh mh dh, .slice bc mc dc] 28)
  have Y := sbox2 w (.cells #[.string ⟨s.toArray⟩, .string ⟨p.toArray⟩, .int .i64 r, .int .i64 f, .bool o, .slice ao no co, .slice ah nh ch, .slice ac nc cc] 28) 28 #[.string ⟨s'.toArray⟩, .string ⟨p'.toArray⟩, .int .i64 r', .int .i64 f', .bool o', .slice bo mo dq, .slice bh mh dh, .slice bc mc dc]
  have B0 := bel2 w (.cells #[.string ⟨s.toArray⟩, .string ⟨p.toArray⟩, .int .i64 r, .int .i64 f, .bool o, .slice ao no co, .slice ah nh ch, .slice ac nc cc] 28) (.cells #[.string ⟨s'.toArray⟩, .string ⟨p'.toArray⟩, .int .i64 r', .int .i64 f', .bool o', .slice bo mo dq, .slice bh mh dh, .slice bc mc dc] 28)
  unfold stC
  simp only
  have tq := fun V => run_tpeql V s p s' p' r f r' f' o o'
  cases hT : decide ((s, p, r, f, o) = (s', p', r', f', o'))
  · rw [hT] at tq
    have HF : Hid ((eqSd x y && false) = false) := Bool.and_false _
    clear hT
    have kx0 := X.cell 0 _ rfl
    have kx1 := X.cell 1 _ rfl
    have kx2 := X.cell 2 _ rfl
    have kx3 := X.cell 3 _ rfl
    have kx4 := X.cell 4 _ rfl
    have kx5 := X.cell 5 _ rfl
    have kx6 := X.cell 6 _ rfl
    have kx7 := X.cell 7 _ rfl
    have fkx0 := X.frozen 0
    have fkx1 := X.frozen 1
    have fkx2 := X.frozen 2
    have fkx3 := X.frozen 3
    have fkx4 := X.frozen 4
    have fkx5 := X.frozen 5
    have fkx6 := X.frozen 6
    have fkx7 := X.frozen 7
    have ky0 := Y.cell 0 _ rfl
    have ky1 := Y.cell 1 _ rfl
    have ky2 := Y.cell 2 _ rfl
    have ky3 := Y.cell 3 _ rfl
    have ky4 := Y.cell 4 _ rfl
    have ky5 := Y.cell 5 _ rfl
    have ky6 := Y.cell 6 _ rfl
    have ky7 := Y.cell 7 _ rfl
    have fky0 := Y.frozen 0
    have fky1 := Y.frozen 1
    have fky2 := Y.frozen 2
    have fky3 := Y.frozen 3
    have fky4 := Y.frozen 4
    have fky5 := Y.frozen 5
    have fky6 := Y.frozen 6
    have fky7 := Y.frozen 7
    go_enter Try.func24, Try.ntmps24
    go_wp2_with fail
    refine (prowsE_any _).mono ?_
    rintro e1 w1 ⟨bu, rfl, bb, U⟩
    clear kx0 fkx0 kx1 fkx1 kx2 fkx2 kx3 fkx3 kx4 fkx4 kx5 fkx5 kx6 fkx6 kx7 fkx7 ky0 fky0 ky1 fky1 ky2 fky2 ky3 fky3 ky4 fky4 ky5 fky5 ky6 fky6 ky7 fky7
    have e0 := Lib.hid B0.size
    replace X := X.below bb
    replace Y := Y.below bb
    replace B0 := B0.trans (bb.mono B0.size)
    clear bb
    go_wp2_with fail
    refine (prowsC_any _).mono ?_
    rintro e1 w2 ⟨bv, rfl, bb, V⟩
    replace X := X.below bb
    replace Y := Y.below bb
    replace B0 := B0.trans (bb.mono B0.size)
    replace U := U.below bb
    clear bb
    have kx0 := X.cell 0 _ rfl
    have kx1 := X.cell 1 _ rfl
    have kx2 := X.cell 2 _ rfl
    have kx3 := X.cell 3 _ rfl
    have kx4 := X.cell 4 _ rfl
    have kx5 := X.cell 5 _ rfl
    have kx6 := X.cell 6 _ rfl
    have kx7 := X.cell 7 _ rfl
    have fkx0 := X.frozen 0
    have fkx1 := X.frozen 1
    have fkx2 := X.frozen 2
    have fkx3 := X.frozen 3
    have fkx4 := X.frozen 4
    have fkx5 := X.frozen 5
    have fkx6 := X.frozen 6
    have fkx7 := X.frozen 7
    have ky0 := Y.cell 0 _ rfl
    have ky1 := Y.cell 1 _ rfl
    have ky2 := Y.cell 2 _ rfl
    have ky3 := Y.cell 3 _ rfl
    have ky4 := Y.cell 4 _ rfl
    have ky5 := Y.cell 5 _ rfl
    have ky6 := Y.cell 6 _ rfl
    have ky7 := Y.cell 7 _ rfl
    have fky0 := Y.frozen 0
    have fky1 := Y.frozen 1
    have fky2 := Y.frozen 2
    have fky3 := Y.frozen 3
    have fky4 := Y.frozen 4
    have fky5 := Y.frozen 5
    have fky6 := Y.frozen 6
    have fky7 := Y.frozen 7
    go_wp2_with (rw [tq])
    go_ret
    rw [HF.out]
    exact ⟨rfl, B0⟩
  · rw [hT] at tq
    clear hT
    by_cases h1 : x.1 = y.1
    · by_cases h2 : x.2.1 = y.2.1
      · have HF : Hid ((eqSd x y && true) = decide (x.2.2 = y.2.2)) := by
          show _ = _
          unfold eqSd
          rw [decide_eq_true h1, decide_eq_true h2, Bool.true_and, Bool.and_true, Bool.and_true]
        have H1 := Lib.hid h1
        have H2 := Lib.hid h2
        clear h1 h2
        have kx0 := X.cell 0 _ rfl
        have kx1 := X.cell 1 _ rfl
        have kx2 := X.cell 2 _ rfl
        have kx3 := X.cell 3 _ rfl
        have kx4 := X.cell 4 _ rfl
        have kx5 := X.cell 5 _ rfl
        have kx6 := X.cell 6 _ rfl
        have kx7 := X.cell 7 _ rfl
        have fkx0 := X.frozen 0
        have fkx1 := X.frozen 1
        have fkx2 := X.frozen 2
        have fkx3 := X.frozen 3
        have fkx4 := X.frozen 4
        have fkx5 := X.frozen 5
        have fkx6 := X.frozen 6
        have fkx7 := X.frozen 7
        have ky0 := Y.cell 0 _ rfl
        have ky1 := Y.cell 1 _ rfl
        have ky2 := Y.cell 2 _ rfl
        have ky3 := Y.cell 3 _ rfl
        have ky4 := Y.cell 4 _ rfl
        have ky5 := Y.cell 5 _ rfl
        have ky6 := Y.cell 6 _ rfl
        have ky7 := Y.cell 7 _ rfl
        have fky0 := Y.frozen 0
        have fky1 := Y.frozen 1
        have fky2 := Y.frozen 2
        have fky3 := Y.frozen 3
        have fky4 := Y.frozen 4
        have fky5 := Y.frozen 5
        have fky6 := Y.frozen 6
        have fky7 := Y.frozen 7
        go_enter Try.func24, Try.ntmps24
        go_wp2_with fail
        refine (prowsE_any _).mono ?_
        rintro e1 w1 ⟨bu, rfl, bb, U⟩
        clear kx0 fkx0 kx1 fkx1 kx2 fkx2 kx3 fkx3 kx4 fkx4 kx5 fkx5 kx6 fkx6 kx7 fkx7 ky0 fky0 ky1 fky1 ky2 fky2 ky3 fky3 ky4 fky4 ky5 fky5 ky6 fky6 ky7 fky7
        have e0 := Lib.hid B0.size
        replace X := X.below bb
        replace Y := Y.below bb
        replace B0 := B0.trans (bb.mono B0.size)
        clear bb
        go_wp2_with fail
        refine (prowsC_any _).mono ?_
        rintro e1 w2 ⟨bv, rfl, bb, V⟩
        replace X := X.below bb
        replace Y := Y.below bb
        replace B0 := B0.trans (bb.mono B0.size)
        replace U := U.below bb
        clear bb
        have kx0 := X.cell 0 _ rfl
        have kx1 := X.cell 1 _ rfl
        have kx2 := X.cell 2 _ rfl
        have kx3 := X.cell 3 _ rfl
        have kx4 := X.cell 4 _ rfl
        have kx5 := X.cell 5 _ rfl
        have kx6 := X.cell 6 _ rfl
        have kx7 := X.cell 7 _ rfl
        have fkx0 := X.frozen 0
        have fkx1 := X.frozen 1
        have fkx2 := X.frozen 2
        have fkx3 := X.frozen 3
        have fkx4 := X.frozen 4
        have fkx5 := X.frozen 5
        have fkx6 := X.frozen 6
        have fkx7 := X.frozen 7
        have ky0 := Y.cell 0 _ rfl
        have ky1 := Y.cell 1 _ rfl
        have ky2 := Y.cell 2 _ rfl
        have ky3 := Y.cell 3 _ rfl
        have ky4 := Y.cell 4 _ rfl
        have ky5 := Y.cell 5 _ rfl
        have ky6 := Y.cell 6 _ rfl
        have ky7 := Y.cell 7 _ rfl
        have fky0 := Y.frozen 0
        have fky1 := Y.frozen 1
        have fky2 := Y.frozen 2
        have fky3 := Y.frozen 3
        have fky4 := Y.frozen 4
        have fky5 := Y.frozen 5
        have fky6 := Y.frozen 6
        have fky7 := Y.frozen 7
        go_wp2_with (rw [tq])
        refine (psame6_any _ _ x.1 y.1 _ (HS.out.op.below B0) (HR.out.op.below B0)).mono ?_
        rintro e1 w3 ⟨rfl, bb⟩
        clear kx0 fkx0 kx1 fkx1 kx2 fkx2 kx3 fkx3 kx4 fkx4 kx5 fkx5 kx6 fkx6 kx7 fkx7 ky0 fky0 ky1 fky1 ky2 fky2 ky3 fky3 ky4 fky4 ky5 fky5 ky6 fky6 ky7 fky7
        replace X := X.below bb
        replace Y := Y.below bb
        replace B0 := B0.trans (bb.mono B0.size)
        replace U := U.below bb
        replace V := V.below bb
        clear bb
        rw [decide_eq_true H1.out]
        have kx0 := X.cell 0 _ rfl
        have kx1 := X.cell 1 _ rfl
        have kx2 := X.cell 2 _ rfl
        have kx3 := X.cell 3 _ rfl
        have kx4 := X.cell 4 _ rfl
        have kx5 := X.cell 5 _ rfl
        have kx6 := X.cell 6 _ rfl
        have kx7 := X.cell 7 _ rfl
        have fkx0 := X.frozen 0
        have fkx1 := X.frozen 1
        have fkx2 := X.frozen 2
        have fkx3 := X.frozen 3
        have fkx4 := X.frozen 4
        have fkx5 := X.frozen 5
        have fkx6 := X.frozen 6
        have fkx7 := X.frozen 7
        have ky0 := Y.cell 0 _ rfl
        have ky1 := Y.cell 1 _ rfl
        have ky2 := Y.cell 2 _ rfl
        have ky3 := Y.cell 3 _ rfl
        have ky4 := Y.cell 4 _ rfl
        have ky5 := Y.cell 5 _ rfl
        have ky6 := Y.cell 6 _ rfl
        have ky7 := Y.cell 7 _ rfl
        have fky0 := Y.frozen 0
        have fky1 := Y.frozen 1
        have fky2 := Y.frozen 2
        have fky3 := Y.frozen 3
        have fky4 := Y.frozen 4
        have fky5 := Y.frozen 5
        have fky6 := Y.frozen 6
        have fky7 := Y.frozen 7
        go_wp2_with fail
        refine (pcloE_any _ _ _ _ _ _ _ _ _ x y _ (HS.out.below B0) (HR.out.below B0) U).mono ?_
        rintro e1 w4 ⟨rfl, bb⟩
        clear kx0 fkx0 kx1 fkx1 kx2 fkx2 kx3 fkx3 kx4 fkx4 kx5 fkx5 kx6 fkx6 kx7 fkx7 ky0 fky0 ky1 fky1 ky2 fky2 ky3 fky3 ky4 fky4 ky5 fky5 ky6 fky6 ky7 fky7
        replace X := X.below bb
        replace Y := Y.below bb
        replace B0 := B0.trans (bb.mono B0.size)
        replace V := V.below bb
        clear bb
        rw [decide_eq_true H2.out]
        have kx0 := X.cell 0 _ rfl
        have kx1 := X.cell 1 _ rfl
        have kx2 := X.cell 2 _ rfl
        have kx3 := X.cell 3 _ rfl
        have kx4 := X.cell 4 _ rfl
        have kx5 := X.cell 5 _ rfl
        have kx6 := X.cell 6 _ rfl
        have kx7 := X.cell 7 _ rfl
        have fkx0 := X.frozen 0
        have fkx1 := X.frozen 1
        have fkx2 := X.frozen 2
        have fkx3 := X.frozen 3
        have fkx4 := X.frozen 4
        have fkx5 := X.frozen 5
        have fkx6 := X.frozen 6
        have fkx7 := X.frozen 7
        have ky0 := Y.cell 0 _ rfl
        have ky1 := Y.cell 1 _ rfl
        have ky2 := Y.cell 2 _ rfl
        have ky3 := Y.cell 3 _ rfl
        have ky4 := Y.cell 4 _ rfl
        have ky5 := Y.cell 5 _ rfl
        have ky6 := Y.cell 6 _ rfl
        have ky7 := Y.cell 7 _ rfl
        have fky0 := Y.frozen 0
        have fky1 := Y.frozen 1
        have fky2 := Y.frozen 2
        have fky3 := Y.frozen 3
        have fky4 := Y.frozen 4
        have fky5 := Y.frozen 5
        have fky6 := Y.frozen 6
        have fky7 := Y.frozen 7
        go_wp2_with fail
        refine (pcloC_any _ _ _ _ _ _ _ _ _ x y _ (HS.out.below B0) (HR.out.below B0) V).mono ?_
        rintro e1 w5 ⟨rfl, bb⟩
        clear kx0 fkx0 kx1 fkx1 kx2 fkx2 kx3 fkx3 kx4 fkx4 kx5 fkx5 kx6 fkx6 kx7 fkx7 ky0 fky0 ky1 fky1 ky2 fky2 ky3 fky3 ky4 fky4 ky5 fky5 ky6 fky6 ky7 fky7
        replace X := X.below bb
        replace Y := Y.below bb
        replace B0 := B0.trans (bb.mono B0.size)
        clear bb
        go_wp2_with fail
        go_ret
        rw [HF.out]
        exact ⟨rfl, B0⟩
      · have HF : Hid ((eqSd x y && true) = false) := by
          show _ = _
          unfold eqSd
          rw [decide_eq_false h2, Bool.and_false, Bool.and_false, Bool.false_and]
        have H1 := Lib.hid h1
        have H2 := Lib.hid h2
        clear h1 h2
        have kx0 := X.cell 0 _ rfl
        have kx1 := X.cell 1 _ rfl
        have kx2 := X.cell 2 _ rfl
        have kx3 := X.cell 3 _ rfl
        have kx4 := X.cell 4 _ rfl
        have kx5 := X.cell 5 _ rfl
        have kx6 := X.cell 6 _ rfl
        have kx7 := X.cell 7 _ rfl
        have fkx0 := X.frozen 0
        have fkx1 := X.frozen 1
        have fkx2 := X.frozen 2
        have fkx3 := X.frozen 3
        have fkx4 := X.frozen 4
        have fkx5 := X.frozen 5
        have fkx6 := X.frozen 6
        have fkx7 := X.frozen 7
        have ky0 := Y.cell 0 _ rfl
        have ky1 := Y.cell 1 _ rfl
        have ky2 := Y.cell 2 _ rfl
        have ky3 := Y.cell 3 _ rfl
        have ky4 := Y.cell 4 _ rfl
        have ky5 := Y.cell 5 _ rfl
        have ky6 := Y.cell 6 _ rfl
        have ky7 := Y.cell 7 _ rfl
        have fky0 := Y.frozen 0
        have fky1 := Y.frozen 1
        have fky2 := Y.frozen 2
        have fky3 := Y.frozen 3
        have fky4 := Y.frozen 4
        have fky5 := Y.frozen 5
        have fky6 := Y.frozen 6
        have fky7 := Y.frozen 7
        go_enter Try.func24, Try.ntmps24
        go_wp2_with fail
        refine (prowsE_any _).mono ?_
        rintro e1 w1 ⟨bu, rfl, bb, U⟩
        clear kx0 fkx0 kx1 fkx1 kx2 fkx2 kx3 fkx3 kx4 fkx4 kx5 fkx5 kx6 fkx6 kx7 fkx7 ky0 fky0 ky1 fky1 ky2 fky2 ky3 fky3 ky4 fky4 ky5 fky5 ky6 fky6 ky7 fky7
        have e0 := Lib.hid B0.size
        replace X := X.below bb
        replace Y := Y.below bb
        replace B0 := B0.trans (bb.mono B0.size)
        clear bb
        go_wp2_with fail
        refine (prowsC_any _).mono ?_
        rintro e1 w2 ⟨bv, rfl, bb, V⟩
        replace X := X.below bb
        replace Y := Y.below bb
        replace B0 := B0.trans (bb.mono B0.size)
        replace U := U.below bb
        clear bb
        have kx0 := X.cell 0 _ rfl
        have kx1 := X.cell 1 _ rfl
        have kx2 := X.cell 2 _ rfl
        have kx3 := X.cell 3 _ rfl
        have kx4 := X.cell 4 _ rfl
        have kx5 := X.cell 5 _ rfl
        have kx6 := X.cell 6 _ rfl
        have kx7 := X.cell 7 _ rfl
        have fkx0 := X.frozen 0
        have fkx1 := X.frozen 1
        have fkx2 := X.frozen 2
        have fkx3 := X.frozen 3
        have fkx4 := X.frozen 4
        have fkx5 := X.frozen 5
        have fkx6 := X.frozen 6
        have fkx7 := X.frozen 7
        have ky0 := Y.cell 0 _ rfl
        have ky1 := Y.cell 1 _ rfl
        have ky2 := Y.cell 2 _ rfl
        have ky3 := Y.cell 3 _ rfl
        have ky4 := Y.cell 4 _ rfl
        have ky5 := Y.cell 5 _ rfl
        have ky6 := Y.cell 6 _ rfl
        have ky7 := Y.cell 7 _ rfl
        have fky0 := Y.frozen 0
        have fky1 := Y.frozen 1
        have fky2 := Y.frozen 2
        have fky3 := Y.frozen 3
        have fky4 := Y.frozen 4
        have fky5 := Y.frozen 5
        have fky6 := Y.frozen 6
        have fky7 := Y.frozen 7
        go_wp2_with (rw [tq])
        refine (psame6_any _ _ x.1 y.1 _ (HS.out.op.below B0) (HR.out.op.below B0)).mono ?_
        rintro e1 w3 ⟨rfl, bb⟩
        clear kx0 fkx0 kx1 fkx1 kx2 fkx2 kx3 fkx3 kx4 fkx4 kx5 fkx5 kx6 fkx6 kx7 fkx7 ky0 fky0 ky1 fky1 ky2 fky2 ky3 fky3 ky4 fky4 ky5 fky5 ky6 fky6 ky7 fky7
        replace X := X.below bb
        replace Y := Y.below bb
        replace B0 := B0.trans (bb.mono B0.size)
        replace U := U.below bb
        replace V := V.below bb
        clear bb
        rw [decide_eq_true H1.out]
        have kx0 := X.cell 0 _ rfl
        have kx1 := X.cell 1 _ rfl
        have kx2 := X.cell 2 _ rfl
        have kx3 := X.cell 3 _ rfl
        have kx4 := X.cell 4 _ rfl
        have kx5 := X.cell 5 _ rfl
        have kx6 := X.cell 6 _ rfl
        have kx7 := X.cell 7 _ rfl
        have fkx0 := X.frozen 0
        have fkx1 := X.frozen 1
        have fkx2 := X.frozen 2
        have fkx3 := X.frozen 3
        have fkx4 := X.frozen 4
        have fkx5 := X.frozen 5
        have fkx6 := X.frozen 6
        have fkx7 := X.frozen 7
        have ky0 := Y.cell 0 _ rfl
        have ky1 := Y.cell 1 _ rfl
        have ky2 := Y.cell 2 _ rfl
        have ky3 := Y.cell 3 _ rfl
        have ky4 := Y.cell 4 _ rfl
        have ky5 := Y.cell 5 _ rfl
        have ky6 := Y.cell 6 _ rfl
        have ky7 := Y.cell 7 _ rfl
        have fky0 := Y.frozen 0
        have fky1 := Y.frozen 1
        have fky2 := Y.frozen 2
        have fky3 := Y.frozen 3
        have fky4 := Y.frozen 4
        have fky5 := Y.frozen 5
        have fky6 := Y.frozen 6
        have fky7 := Y.frozen 7
        go_wp2_with fail
        refine (pcloE_any _ _ _ _ _ _ _ _ _ x y _ (HS.out.below B0) (HR.out.below B0) U).mono ?_
        rintro e1 w4 ⟨rfl, bb⟩
        clear kx0 fkx0 kx1 fkx1 kx2 fkx2 kx3 fkx3 kx4 fkx4 kx5 fkx5 kx6 fkx6 kx7 fkx7 ky0 fky0 ky1 fky1 ky2 fky2 ky3 fky3 ky4 fky4 ky5 fky5 ky6 fky6 ky7 fky7
        replace X := X.below bb
        replace Y := Y.below bb
        replace B0 := B0.trans (bb.mono B0.size)
        replace V := V.below bb
        clear bb
        rw [decide_eq_false H2.out]
        go_wp2_with fail
        go_ret
        rw [HF.out]
        exact ⟨rfl, B0⟩
    · have HF : Hid ((eqSd x y && true) = false) := by
        show _ = _
        unfold eqSd
        rw [decide_eq_false h1, Bool.false_and, Bool.false_and]
      have H1 := Lib.hid h1
      clear h1
      have kx0 := X.cell 0 _ rfl
      have kx1 := X.cell 1 _ rfl
      have kx2 := X.cell 2 _ rfl
      have kx3 := X.cell 3 _ rfl
      have kx4 := X.cell 4 _ rfl
      have kx5 := X.cell 5 _ rfl
      have kx6 := X.cell 6 _ rfl
      have kx7 := X.cell 7 _ rfl
      have fkx0 := X.frozen 0
      have fkx1 := X.frozen 1
      have fkx2 := X.frozen 2
      have fkx3 := X.frozen 3
      have fkx4 := X.frozen 4
      have fkx5 := X.frozen 5
      have fkx6 := X.frozen 6
      have fkx7 := X.frozen 7
      have ky0 := Y.cell 0 _ rfl
      have ky1 := Y.cell 1 _ rfl
      have ky2 := Y.cell 2 _ rfl
      have ky3 := Y.cell 3 _ rfl
      have ky4 := Y.cell 4 _ rfl
      have ky5 := Y.cell 5 _ rfl
      have ky6 := Y.cell 6 _ rfl
      have ky7 := Y.cell 7 _ rfl
      have fky0 := Y.frozen 0
      have fky1 := Y.frozen 1
      have fky2 := Y.frozen 2
      have fky3 := Y.frozen 3
      have fky4 := Y.frozen 4
      have fky5 := Y.frozen 5
      have fky6 := Y.frozen 6
      have fky7 := Y.frozen 7
      go_enter Try.func24, Try.ntmps24
      go_wp2_with fail
      refine (prowsE_any _).mono ?_
      rintro e1 w1 ⟨bu, rfl, bb, U⟩
      clear kx0 fkx0 kx1 fkx1 kx2 fkx2 kx3 fkx3 kx4 fkx4 kx5 fkx5 kx6 fkx6 kx7 fkx7 ky0 fky0 ky1 fky1 ky2 fky2 ky3 fky3 ky4 fky4 ky5 fky5 ky6 fky6 ky7 fky7
      have e0 := Lib.hid B0.size
      replace X := X.below bb
      replace Y := Y.below bb
      replace B0 := B0.trans (bb.mono B0.size)
      clear bb
      go_wp2_with fail
      refine (prowsC_any _).mono ?_
      rintro e1 w2 ⟨bv, rfl, bb, V⟩
      replace X := X.below bb
      replace Y := Y.below bb
      replace B0 := B0.trans (bb.mono B0.size)
      replace U := U.below bb
      clear bb
      have kx0 := X.cell 0 _ rfl
      have kx1 := X.cell 1 _ rfl
      have kx2 := X.cell 2 _ rfl
      have kx3 := X.cell 3 _ rfl
      have kx4 := X.cell 4 _ rfl
      have kx5 := X.cell 5 _ rfl
      have kx6 := X.cell 6 _ rfl
      have kx7 := X.cell 7 _ rfl
      have fkx0 := X.frozen 0
      have fkx1 := X.frozen 1
      have fkx2 := X.frozen 2
      have fkx3 := X.frozen 3
      have fkx4 := X.frozen 4
      have fkx5 := X.frozen 5
      have fkx6 := X.frozen 6
      have fkx7 := X.frozen 7
      have ky0 := Y.cell 0 _ rfl
      have ky1 := Y.cell 1 _ rfl
      have ky2 := Y.cell 2 _ rfl
      have ky3 := Y.cell 3 _ rfl
      have ky4 := Y.cell 4 _ rfl
      have ky5 := Y.cell 5 _ rfl
      have ky6 := Y.cell 6 _ rfl
      have ky7 := Y.cell 7 _ rfl
      have fky0 := Y.frozen 0
      have fky1 := Y.frozen 1
      have fky2 := Y.frozen 2
      have fky3 := Y.frozen 3
      have fky4 := Y.frozen 4
      have fky5 := Y.frozen 5
      have fky6 := Y.frozen 6
      have fky7 := Y.frozen 7
      go_wp2_with (rw [tq])
      refine (psame6_any _ _ x.1 y.1 _ (HS.out.op.below B0) (HR.out.op.below B0)).mono ?_
      rintro e1 w3 ⟨rfl, bb⟩
      clear kx0 fkx0 kx1 fkx1 kx2 fkx2 kx3 fkx3 kx4 fkx4 kx5 fkx5 kx6 fkx6 kx7 fkx7 ky0 fky0 ky1 fky1 ky2 fky2 ky3 fky3 ky4 fky4 ky5 fky5 ky6 fky6 ky7 fky7
      replace X := X.below bb
      replace Y := Y.below bb
      replace B0 := B0.trans (bb.mono B0.size)
      replace U := U.below bb
      replace V := V.below bb
      clear bb
      rw [decide_eq_false H1.out]
      go_wp2_with fail
      go_ret
      rw [HF.out]
      exact ⟨rfl, B0⟩
end Go.Proofs.Ytngllioidfffdaa
