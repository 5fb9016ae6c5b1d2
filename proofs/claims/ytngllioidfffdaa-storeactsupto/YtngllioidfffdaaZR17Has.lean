/-
  What cartoucheref17.Has and cartoucheref17.Same answer.
-/
import Derived.Test.YtngllioidfffdaaZR6Same
import Derived.Test.YtngllioidfffdaaGL
import Derived.Test.YtngllioidfffdaaGX
import Derived.Test.YtngllioidfffdaaGC
import Derived.Lib.Hide
namespace Go.Proofs.Ytngllioidfffdaa
set_option maxRecDepth 100000
open Go.RowKit
set_option linter.unusedVariables false
attribute [local go_sem] ba_size
def eqSd (x y : Sd) : Bool := decide (x.1 = y.1) && (decide (x.2.2 = y.2.2) && decide (x.2.1 = y.2.1))
theorem eqSd_iff (x y : Sd) : eqSd x y = true ↔ x = y := by
  obtain ⟨x1, x2, x3⟩ := x
  obtain ⟨y1, y2, y3⟩ := y
  unfold eqSd
  simp only [Bool.and_eq_true, decide_eq_true_eq, Prod.mk.injEq]
  exact ⟨fun h => ⟨h.1, h.2.2, h.2.1⟩, fun h => ⟨h.1, h.2.2, h.2.1⟩⟩
theorem eqSd_no {x y : Sd} (h : ¬ x = y) : eqSd x y = false := by
  cases hb : eqSd x y
  · rfl
  · exact absurd ((eqSd_iff x y).1 hb) h
theorem eqSd_yes {x y : Sd} (h : x = y) : eqSd x y = true := (eqSd_iff x y).2 h
theorem tp_dec17 (s p s' p' : List UInt8) (r f r' f' : Int) (o o' : Bool) : (decide (s = s') && (decide (p = p') && (decide (r = r') && (decide (f = f') && decide (o = o'))))) = decide ((s, p, r, f, o) = (s', p', r', f', o')) := by
  by_cases h0 : s = s' <;> by_cases h1 : p = p' <;> by_cases h2 : r = r' <;> by_cases h3 : f = f' <;> by_cases h4 : o = o' <;> simp [h0, h1, h2, h3, h4]
/-- The slices of what is sealed, one of them. -/
theorem hs_at17 {W : World} {vo vh vc : Value} {H' : List Value} {x : Sd} (h : StIn W vo vh vc H' x) {a : Option Addr} {n c : Nat} (hv : vh = .slice a n c) (k : Nat) (hk : k < x.2.1.length) :
    ∃ b off aa nn cc, a = some ⟨b, off, none⟩ ∧ W.cell? ⟨b, off + k, none⟩ = some (.slice aa nn cc) ∧ IsEvs W (.slice aa nn cc) x.2.1[k] := by
  have hk' : k < H'.length := by rw [h.ho.len]; exact hk
  obtain ⟨a', c', e, _, _, _, HC⟩ := h.hi.some_at
  rw [hv] at e
  simp only [Value.slice.injEq] at e
  obtain ⟨rfl, _, rfl⟩ := e
  obtain ⟨b, off, ha, _, hc⟩ := HC.out k hk'
  have g := hc 0 H'[k] rfl
  have q := (h.ho.at_ k _ _ (List.getElem?_eq_getElem hk') (List.getElem?_eq_getElem hk)).1
  obtain ⟨aa, cc, e, _⟩ := q.some_at
  rw [e] at g q
  rw [Nat.mul_one, Nat.add_zero] at g
  exact ⟨b, off, aa, _, cc, ha, g, q⟩
set_option maxHeartbeats 4000000 in
theorem rhas17_any (s p s' p' : List UInt8) (r f r' f' : Int) (o o' : Bool) (vo vh vc uo uh uc : Value) (H' G' : List Value) (x y : Sd) (w : World) (hS : StIn w vo vh vc H' x) (hR : StIn w uo uh uc G' y) :
    Calls Try.prog 27 #[.agg (stC (s, p, r, f, o) vo vh vc), .agg (stC (s', p', r', f', o') uo uh uc)] w fun e w' => e = .returned (.bool (eqSd x y)) ∧ Below w.heap.size w w' := by
  obtain ⟨ao, no, co, ah, nh, ch, ac, nc, cc, rfl, rfl, rfl⟩ := hS.slices
  obtain ⟨bo, mo, dq, bh, mh, dh, bc, mc, dc, rfl, rfl, rfl⟩ := hR.slices
  obtain ⟨x1, x2, x3⟩ := x
  obtain ⟨y1, y2, y3⟩ := y
  obtain ⟨⟨n1, _, _, _⟩, ⟨n2, h2a, h2b, h2c⟩, ⟨n3, _, _, _⟩⟩ := hS.nums
  obtain ⟨⟨m1, _, _, _⟩, ⟨m2, g2a, g2b, g2c⟩, ⟨m3, _, _, _⟩⟩ := hR.nums
  simp only at n1 n2 n3 m1 m2 m3
  have HN : Hid (x2.length = nh ∧ y2.length = mh) := ⟨n2, m2⟩
  have HS := Lib.hid hS
  have HR := Lib.hid hR
  clear hS hR n1 n2 n3 m1 m2 m3
  have X := (SBox.new w 28 #[.string ⟨s.toArray⟩, .string ⟨p.toArray⟩, .int .i64 r, .int .i64 f, .bool o, .slice ao no co, .slice ah nh ch, .slice ac nc cc]).alloc (.cells #[.string ⟨s'.toArray⟩, .string ⟨p'.toArray⟩, .int .i64 r', .int .i64 f', .bool o', .slice bo mo dq, .slice bh mh dh, .slice bc mc dc] 28)
  have Y := sbox2 w (.cells #[.string ⟨s.toArray⟩, .string ⟨p.toArray⟩, .int .i64 r, .int .i64 f, .bool o, .slice ao no co, .slice ah nh ch, .slice ac nc cc] 28) 28 #[.string ⟨s'.toArray⟩, .string ⟨p'.toArray⟩, .int .i64 r', .int .i64 f', .bool o', .slice bo mo dq, .slice bh mh dh, .slice bc mc dc]
  have B0 := bel2 w (.cells #[.string ⟨s.toArray⟩, .string ⟨p.toArray⟩, .int .i64 r, .int .i64 f, .bool o, .slice ao no co, .slice ah nh ch, .slice ac nc cc] 28) (.cells #[.string ⟨s'.toArray⟩, .string ⟨p'.toArray⟩, .int .i64 r', .int .i64 f', .bool o', .slice bo mo dq, .slice bh mh dh, .slice bc mc dc] 28)
  unfold stC
  simp only
  by_cases h1 : x1 = y1
  · by_cases h3 : x3 = y3
    · subst h1 h3
      by_cases h2 : nh = mh
      · subst h2
        obtain ⟨n, hn⟩ : ∃ n, n = nh := ⟨_, rfl⟩
        subst hn
        have kx0 := X.cell 0 _ rfl
        have kx1 := X.cell 1 _ rfl
        have kx2 := X.cell 2 _ rfl
        have kx3 := X.cell 3 _ rfl
        have kx4 := X.cell 4 _ rfl
        have kx5 := X.cell 5 _ rfl
        have kx6 := X.cell 6 _ rfl
        have kx7 := X.cell 7 _ rfl
        have fkx0 := X.frozen 0
        have fkx1 := X.frozen 1
        have fkx2 := X.frozen 2
        have fkx3 := X.frozen 3
        have fkx4 := X.frozen 4
        have fkx5 := X.frozen 5
        have fkx6 := X.frozen 6
        have fkx7 := X.frozen 7
        have ky0 := Y.cell 0 _ rfl
        have ky1 := Y.cell 1 _ rfl
        have ky2 := Y.cell 2 _ rfl
        have ky3 := Y.cell 3 _ rfl
        have ky4 := Y.cell 4 _ rfl
        have ky5 := Y.cell 5 _ rfl
        have ky6 := Y.cell 6 _ rfl
        have ky7 := Y.cell 7 _ rfl
        have fky0 := Y.frozen 0
        have fky1 := Y.frozen 1
        have fky2 := Y.frozen 2
        have fky3 := Y.frozen 3
        have fky4 := Y.frozen 4
        have fky5 := Y.frozen 5
        have fky6 := Y.frozen 6
        have fky7 := Y.frozen 7
        go_enter Try.func27, Try.ntmps27
        go_wp2_with fail
        refine (rsame6_any _ _ x1 x1 _ (HS.out.op.below B0) (HR.out.op.below B0)).mono ?_
        rintro e1 w1 ⟨rfl, bb⟩
        clear kx0 fkx0 kx1 fkx1 kx2 fkx2 kx3 fkx3 kx4 fkx4 kx5 fkx5 kx6 fkx6 kx7 fkx7 ky0 fky0 ky1 fky1 ky2 fky2 ky3 fky3 ky4 fky4 ky5 fky5 ky6 fky6 ky7 fky7
        replace X := X.below bb
        replace Y := Y.below bb
        replace B0 := B0.trans (bb.mono B0.size)
        clear bb
        rw [decide_eq_true rfl]
        have kx0 := X.cell 0 _ rfl
        have kx1 := X.cell 1 _ rfl
        have kx2 := X.cell 2 _ rfl
        have kx3 := X.cell 3 _ rfl
        have kx4 := X.cell 4 _ rfl
        have kx5 := X.cell 5 _ rfl
        have kx6 := X.cell 6 _ rfl
        have kx7 := X.cell 7 _ rfl
        have fkx0 := X.frozen 0
        have fkx1 := X.frozen 1
        have fkx2 := X.frozen 2
        have fkx3 := X.frozen 3
        have fkx4 := X.frozen 4
        have fkx5 := X.frozen 5
        have fkx6 := X.frozen 6
        have fkx7 := X.frozen 7
        have ky0 := Y.cell 0 _ rfl
        have ky1 := Y.cell 1 _ rfl
        have ky2 := Y.cell 2 _ rfl
        have ky3 := Y.cell 3 _ rfl
        have ky4 := Y.cell 4 _ rfl
        have ky5 := Y.cell 5 _ rfl
        have ky6 := Y.cell 6 _ rfl
        have ky7 := Y.cell 7 _ rfl
        have fky0 := Y.frozen 0
        have fky1 := Y.frozen 1
        have fky2 := Y.frozen 2
        have fky3 := Y.frozen 3
        have fky4 := Y.frozen 4
        have fky5 := Y.frozen 5
        have fky6 := Y.frozen 6
        have fky7 := Y.frozen 7
        go_wp2_with fail
        refine (same_txt _ _ x3 x3 _ (HS.out.ce.below B0) (HR.out.ce.below B0)).mono ?_
        rintro e1 w2 ⟨rfl, bb⟩
        clear kx0 fkx0 kx1 fkx1 kx2 fkx2 kx3 fkx3 kx4 fkx4 kx5 fkx5 kx6 fkx6 kx7 fkx7 ky0 fky0 ky1 fky1 ky2 fky2 ky3 fky3 ky4 fky4 ky5 fky5 ky6 fky6 ky7 fky7
        replace X := X.below bb
        replace Y := Y.below bb
        replace B0 := B0.trans (bb.mono B0.size)
        clear bb
        rw [decide_eq_true rfl]
        have kx0 := X.cell 0 _ rfl
        have kx1 := X.cell 1 _ rfl
        have kx2 := X.cell 2 _ rfl
        have kx3 := X.cell 3 _ rfl
        have kx4 := X.cell 4 _ rfl
        have kx5 := X.cell 5 _ rfl
        have kx6 := X.cell 6 _ rfl
        have kx7 := X.cell 7 _ rfl
        have fkx0 := X.frozen 0
        have fkx1 := X.frozen 1
        have fkx2 := X.frozen 2
        have fkx3 := X.frozen 3
        have fkx4 := X.frozen 4
        have fkx5 := X.frozen 5
        have fkx6 := X.frozen 6
        have fkx7 := X.frozen 7
        have ky0 := Y.cell 0 _ rfl
        have ky1 := Y.cell 1 _ rfl
        have ky2 := Y.cell 2 _ rfl
        have ky3 := Y.cell 3 _ rfl
        have ky4 := Y.cell 4 _ rfl
        have ky5 := Y.cell 5 _ rfl
        have ky6 := Y.cell 6 _ rfl
        have ky7 := Y.cell 7 _ rfl
        have fky0 := Y.frozen 0
        have fky1 := Y.frozen 1
        have fky2 := Y.frozen 2
        have fky3 := Y.frozen 3
        have fky4 := Y.frozen 4
        have fky5 := Y.frozen 5
        have fky6 := Y.frozen 6
        have fky7 := Y.frozen 7
        go_wp2_with fail
        clear kx0 fkx0 kx1 fkx1 kx2 fkx2 kx3 fkx3 kx4 fkx4 kx5 fkx5 kx6 fkx6 kx7 fkx7 ky0 fky0 ky1 fky1 ky2 fky2 ky3 fky3 ky4 fky4 ky5 fky5 ky6 fky6 ky7 fky7
        have XX := Lib.hid X
        have YY := Lib.hid Y
        have BB := Lib.hid B0
        go_loopw [7] (fun i wr => ∃ k : Nat, k ≤ n ∧ i = .int .i64 k ∧ Hid (x2.take k = y2.take k) ∧ Hid (SBox wr w.heap.size 28 #[.string ⟨s.toArray⟩, .string ⟨p.toArray⟩, .int .i64 r, .int .i64 f, .bool o, .slice ao no co, .slice ah n ch, .slice ac nc cc] ∧ SBox wr (w.heap.size + 1) 28 #[.string ⟨s'.toArray⟩, .string ⟨p'.toArray⟩, .int .i64 r', .int .i64 f', .bool o', .slice bo mo dq, .slice bh n dh, .slice bc mc dc] ∧ Below w.heap.size w wr)) (fun i _ => n - (intOf i).toNat)
        case atStart => exact ⟨0, Nat.zero_le _, rfl, rfl, ⟨X, Y, B0⟩⟩
        case round =>
          obtain ⟨k, hk, rfl, HE, HB⟩ := hrel
          clear X Y B0
          have X := HB.out.1
          have Y := HB.out.2.1
          have B0 := HB.out.2.2
          by_cases hlt : k < n
          · have hk1 : k < x2.length := by rw [HN.out.1]; exact hlt
            have hk2 : k < y2.length := by rw [HN.out.2]; exact hlt
            obtain ⟨b1, o1, a1, n1, c1, rfl, p1, q1⟩ := hs_at17 (HS.out.below B0) rfl k hk1
            obtain ⟨b2, o2, a2, n2, c2, rfl, p2, q2⟩ := hs_at17 (HR.out.below B0) rfl k hk2
            simp only at q1 q2
            have kx0 := X.cell 0 _ rfl
            have kx1 := X.cell 1 _ rfl
            have kx2 := X.cell 2 _ rfl
            have kx3 := X.cell 3 _ rfl
            have kx4 := X.cell 4 _ rfl
            have kx5 := X.cell 5 _ rfl
            have kx6 := X.cell 6 _ rfl
            have kx7 := X.cell 7 _ rfl
            have fkx0 := X.frozen 0
            have fkx1 := X.frozen 1
            have fkx2 := X.frozen 2
            have fkx3 := X.frozen 3
            have fkx4 := X.frozen 4
            have fkx5 := X.frozen 5
            have fkx6 := X.frozen 6
            have fkx7 := X.frozen 7
            have ky0 := Y.cell 0 _ rfl
            have ky1 := Y.cell 1 _ rfl
            have ky2 := Y.cell 2 _ rfl
            have ky3 := Y.cell 3 _ rfl
            have ky4 := Y.cell 4 _ rfl
            have ky5 := Y.cell 5 _ rfl
            have ky6 := Y.cell 6 _ rfl
            have ky7 := Y.cell 7 _ rfl
            have fky0 := Y.frozen 0
            have fky1 := Y.frozen 1
            have fky2 := Y.frozen 2
            have fky3 := Y.frozen 3
            have fky4 := Y.frozen 4
            have fky5 := Y.frozen 5
            have fky6 := Y.frozen 6
            have fky7 := Y.frozen 7
            go_wp2_with fail
            clear kx0 fkx0 kx1 fkx1 kx2 fkx2 kx3 fkx3 kx4 fkx4 kx5 fkx5 kx6 fkx6 kx7 fkx7 ky0 fky0 ky1 fky1 ky2 fky2 ky3 fky3 ky4 fky4 ky5 fky5 ky6 fky6 ky7 fky7
            refine wp_region_any (by kernel_rfl) ?_
            change wpAny _ _ _ _ _ _ _ (World.drew _)
            generalize hwd : World.drew _ = wd
            replace X := X.drew
            replace Y := Y.drew
            replace B0 := B0.drew
            replace p1 : wd.cell? ⟨b1, o1 + k, none⟩ = some (.slice a1 n1 c1) := by rw [← hwd]; exact p1
            replace p2 : wd.cell? ⟨b2, o2 + k, none⟩ = some (.slice a2 n2 c2) := by rw [← hwd]; exact p2
            have BD : Below wr.heap.size wr wd := by rw [← hwd]; exact (Below.refl _ _).drew
            rw [hwd] at X Y B0
            clear hwd
            replace q1 := Lib.hid (q1.below BD)
            replace q2 := Lib.hid (q2.below BD)
            clear BD
            refine any_of_C (C := (fun V => SBox V w.heap.size 28 #[.string ⟨s.toArray⟩, .string ⟨p.toArray⟩, .int .i64 r, .int .i64 f, .bool o, .slice ao no co, .slice (some ⟨b1, o1, none⟩) n ch, .slice ac nc cc] ∧ SBox V (w.heap.size + 1) 28 #[.string ⟨s'.toArray⟩, .string ⟨p'.toArray⟩, .int .i64 r', .int .i64 f', .bool o', .slice bo mo dq, .slice (some ⟨b2, o2, none⟩) n dh, .slice bc mc dc] ∧ V.cell? ⟨b1, o1 + k, none⟩ = some (.slice a1 n1 c1) ∧ V.cell? ⟨b2, o2 + k, none⟩ = some (.slice a2 n2 c2))) 11 _ _ _ _ ?_
            refine takeD 0 (.pointer (some ⟨w.heap.size, 6, none⟩)) rfl (by kernel_rfl) (fun _ _ _ h => h) (fun V hV => by have hV0 := hV.1; have hV1 := hV.2.1; have hV2 := hV.2.2.1; have hV3 := hV.2.2.2; have kx6 := hV0.cell 6 _ rfl; have ky6 := hV1.cell 6 _ rfl; go_simp) ?_
            refine takeD 1 (.slice (some ⟨b1, o1, none⟩) n ch) rfl (by kernel_rfl) (fun _ _ _ h => h) (fun V hV => by have hV0 := hV.1; have hV1 := hV.2.1; have hV2 := hV.2.2.1; have hV3 := hV.2.2.2; have kx6 := hV0.cell 6 _ rfl; have ky6 := hV1.cell 6 _ rfl; go_simp) ?_
            refine takeD 2 (.int .i64 (k : Int)) rfl (by kernel_rfl) (fun _ _ _ h => h) (fun V hV => by have hV0 := hV.1; have hV1 := hV.2.1; have hV2 := hV.2.2.1; have hV3 := hV.2.2.2; have kx6 := hV0.cell 6 _ rfl; have ky6 := hV1.cell 6 _ rfl; go_simp) ?_
            refine takeD 3 (.pointer (some ⟨b1, o1 + k, none⟩)) rfl (by kernel_rfl) (fun _ _ _ h => h) (fun V hV => by have hV0 := hV.1; have hV1 := hV.2.1; have hV2 := hV.2.2.1; have hV3 := hV.2.2.2; have kx6 := hV0.cell 6 _ rfl; have ky6 := hV1.cell 6 _ rfl; go_simp) ?_
            refine takeD 4 (.slice a1 n1 c1) rfl (by kernel_rfl) (fun _ _ _ h => h) (fun V hV => by have hV0 := hV.1; have hV1 := hV.2.1; have hV2 := hV.2.2.1; have hV3 := hV.2.2.2; have kx6 := hV0.cell 6 _ rfl; have ky6 := hV1.cell 6 _ rfl; go_simp) ?_
            refine takeD 5 (.pointer (some ⟨w.heap.size + 1, 6, none⟩)) rfl (by kernel_rfl) (fun _ _ _ h => h) (fun V hV => by have hV0 := hV.1; have hV1 := hV.2.1; have hV2 := hV.2.2.1; have hV3 := hV.2.2.2; have kx6 := hV0.cell 6 _ rfl; have ky6 := hV1.cell 6 _ rfl; go_simp) ?_
            refine takeD 6 (.slice (some ⟨b2, o2, none⟩) n dh) rfl (by kernel_rfl) (fun _ _ _ h => h) (fun V hV => by have hV0 := hV.1; have hV1 := hV.2.1; have hV2 := hV.2.2.1; have hV3 := hV.2.2.2; have kx6 := hV0.cell 6 _ rfl; have ky6 := hV1.cell 6 _ rfl; go_simp) ?_
            refine takeD 7 (.int .i64 (k : Int)) rfl (by kernel_rfl) (fun _ _ _ h => h) (fun V hV => by have hV0 := hV.1; have hV1 := hV.2.1; have hV2 := hV.2.2.1; have hV3 := hV.2.2.2; have kx6 := hV0.cell 6 _ rfl; have ky6 := hV1.cell 6 _ rfl; go_simp) ?_
            refine takeD 8 (.pointer (some ⟨b2, o2 + k, none⟩)) rfl (by kernel_rfl) (fun _ _ _ h => h) (fun V hV => by have hV0 := hV.1; have hV1 := hV.2.1; have hV2 := hV.2.2.1; have hV3 := hV.2.2.2; have kx6 := hV0.cell 6 _ rfl; have ky6 := hV1.cell 6 _ rfl; go_simp) ?_
            refine takeD 9 (.slice a2 n2 c2) rfl (by kernel_rfl) (fun _ _ _ h => h) (fun V hV => by have hV0 := hV.1; have hV1 := hV.2.1; have hV2 := hV.2.2.1; have hV3 := hV.2.2.2; have kx6 := hV0.cell 6 _ rfl; have ky6 := hV1.cell 6 _ rfl; go_simp) ?_
            refine consC (i := 10) (by kernel_rfl) (by kernel_rfl) ⟨X, Y, p1, p2⟩ rfl (fun K hK => ?_)
            go_wp2_with fail
            refine (rsame6_any _ _ x2[k] y2[k] _ q1.out q2.out).mono ?_
            rintro e1 w3 ⟨rfl, bb⟩
            replace X := X.below bb
            replace Y := Y.below bb
            replace B0 := B0.trans (bb.mono B0.size)
            replace p1 := cell_bel bb p1
            replace p2 := cell_bel bb p2
            clear bb
            by_cases hx : x2[k] = y2[k]
            · rw [decide_eq_true hx]
              have HE2 : Hid (x2.take (k + 1) = y2.take (k + 1)) := take_next_eq hk1 hk2 HE.out hx
              clear hx
              go_wp2_with fail
              refine lastC (by kernel_rfl) (by kernel_rfl) ⟨X, Y, p1, p2⟩ (of_decide_eq_true (by kernel_rfl)) ?_
              refine any_seqI [11] [_] _ _ _ rfl (by kernel_rfl) ?_
              have HB2 := Lib.hid (And.intro X (And.intro Y B0))
              go_wp2_with fail
              go_roundw
              case rel => exact ⟨k + 1, by omega, by first | go_num | simp, HE2, HB2⟩
              case measure => simp [intOf]; omega
            · rw [decide_eq_false hx]
              have hf : eqSd (x1, x2, x3) (x1, y2, x3) = false := eqSd_no (fun e => by simp only [Prod.mk.injEq, true_and, and_true] at e; subst e; exact hx rfl)
              have HF := Lib.hid hf
              clear hx hf
              go_wp2_with fail
              refine lastC (by kernel_rfl) (by kernel_rfl) ⟨X, Y, p1, p2⟩ (of_decide_eq_true (by kernel_rfl)) ?_
              refine any_seqI [11] [_] _ _ _ rfl (by kernel_rfl) ?_
              go_wp2_with fail
              go_ret
              rw [HF.out]
              exact ⟨rfl, B0⟩
          · obtain rfl : k = n := by omega
            have kx0 := X.cell 0 _ rfl
            have kx1 := X.cell 1 _ rfl
            have kx2 := X.cell 2 _ rfl
            have kx3 := X.cell 3 _ rfl
            have kx4 := X.cell 4 _ rfl
            have kx5 := X.cell 5 _ rfl
            have kx6 := X.cell 6 _ rfl
            have kx7 := X.cell 7 _ rfl
            have fkx0 := X.frozen 0
            have fkx1 := X.frozen 1
            have fkx2 := X.frozen 2
            have fkx3 := X.frozen 3
            have fkx4 := X.frozen 4
            have fkx5 := X.frozen 5
            have fkx6 := X.frozen 6
            have fkx7 := X.frozen 7
            have ky0 := Y.cell 0 _ rfl
            have ky1 := Y.cell 1 _ rfl
            have ky2 := Y.cell 2 _ rfl
            have ky3 := Y.cell 3 _ rfl
            have ky4 := Y.cell 4 _ rfl
            have ky5 := Y.cell 5 _ rfl
            have ky6 := Y.cell 6 _ rfl
            have ky7 := Y.cell 7 _ rfl
            have fky0 := Y.frozen 0
            have fky1 := Y.frozen 1
            have fky2 := Y.frozen 2
            have fky3 := Y.frozen 3
            have fky4 := Y.frozen 4
            have fky5 := Y.frozen 5
            have fky6 := Y.frozen 6
            have fky7 := Y.frozen 7
            have hf : eqSd (x1, x2, x3) (x1, y2, x3) = true := eqSd_yes (by have := HE.out; rw [List.take_of_length_le (by rw [HN.out.1]; exact Nat.le_refl _), List.take_of_length_le (by rw [HN.out.2]; exact Nat.le_refl _)] at this; rw [this])
            have HF := Lib.hid hf
            clear hf
            go_wp2_with fail
            go_ret
            rw [HF.out]
            exact ⟨rfl, B0⟩
      · have hf : eqSd (x1, x2, x3) (x1, y2, x3) = false := eqSd_no (fun e => by simp only [Prod.mk.injEq, true_and, and_true] at e; subst e; exact h2 (HN.out.1.symm.trans HN.out.2))
        rw [hf]
        have hne : ((nh : Int) != (mh : Int)) = true := by simp; omega
        have hne2 : ¬ (nh : Int) = (mh : Int) := by omega
        clear hf h2
        have kx0 := X.cell 0 _ rfl
        have kx1 := X.cell 1 _ rfl
        have kx2 := X.cell 2 _ rfl
        have kx3 := X.cell 3 _ rfl
        have kx4 := X.cell 4 _ rfl
        have kx5 := X.cell 5 _ rfl
        have kx6 := X.cell 6 _ rfl
        have kx7 := X.cell 7 _ rfl
        have fkx0 := X.frozen 0
        have fkx1 := X.frozen 1
        have fkx2 := X.frozen 2
        have fkx3 := X.frozen 3
        have fkx4 := X.frozen 4
        have fkx5 := X.frozen 5
        have fkx6 := X.frozen 6
        have fkx7 := X.frozen 7
        have ky0 := Y.cell 0 _ rfl
        have ky1 := Y.cell 1 _ rfl
        have ky2 := Y.cell 2 _ rfl
        have ky3 := Y.cell 3 _ rfl
        have ky4 := Y.cell 4 _ rfl
        have ky5 := Y.cell 5 _ rfl
        have ky6 := Y.cell 6 _ rfl
        have ky7 := Y.cell 7 _ rfl
        have fky0 := Y.frozen 0
        have fky1 := Y.frozen 1
        have fky2 := Y.frozen 2
        have fky3 := Y.frozen 3
        have fky4 := Y.frozen 4
        have fky5 := Y.frozen 5
        have fky6 := Y.frozen 6
        have fky7 := Y.frozen 7
        go_enter Try.func27, Try.ntmps27
        go_wp2_with fail
        refine (rsame6_any _ _ x1 x1 _ (HS.out.op.below B0) (HR.out.op.below B0)).mono ?_
        rintro e1 w1 ⟨rfl, bb⟩
        clear kx0 fkx0 kx1 fkx1 kx2 fkx2 kx3 fkx3 kx4 fkx4 kx5 fkx5 kx6 fkx6 kx7 fkx7 ky0 fky0 ky1 fky1 ky2 fky2 ky3 fky3 ky4 fky4 ky5 fky5 ky6 fky6 ky7 fky7
        replace X := X.below bb
        replace Y := Y.below bb
        replace B0 := B0.trans (bb.mono B0.size)
        clear bb
        rw [decide_eq_true rfl]
        have kx0 := X.cell 0 _ rfl
        have kx1 := X.cell 1 _ rfl
        have kx2 := X.cell 2 _ rfl
        have kx3 := X.cell 3 _ rfl
        have kx4 := X.cell 4 _ rfl
        have kx5 := X.cell 5 _ rfl
        have kx6 := X.cell 6 _ rfl
        have kx7 := X.cell 7 _ rfl
        have fkx0 := X.frozen 0
        have fkx1 := X.frozen 1
        have fkx2 := X.frozen 2
        have fkx3 := X.frozen 3
        have fkx4 := X.frozen 4
        have fkx5 := X.frozen 5
        have fkx6 := X.frozen 6
        have fkx7 := X.frozen 7
        have ky0 := Y.cell 0 _ rfl
        have ky1 := Y.cell 1 _ rfl
        have ky2 := Y.cell 2 _ rfl
        have ky3 := Y.cell 3 _ rfl
        have ky4 := Y.cell 4 _ rfl
        have ky5 := Y.cell 5 _ rfl
        have ky6 := Y.cell 6 _ rfl
        have ky7 := Y.cell 7 _ rfl
        have fky0 := Y.frozen 0
        have fky1 := Y.frozen 1
        have fky2 := Y.frozen 2
        have fky3 := Y.frozen 3
        have fky4 := Y.frozen 4
        have fky5 := Y.frozen 5
        have fky6 := Y.frozen 6
        have fky7 := Y.frozen 7
        go_wp2_with fail
        refine (same_txt _ _ x3 x3 _ (HS.out.ce.below B0) (HR.out.ce.below B0)).mono ?_
        rintro e1 w2 ⟨rfl, bb⟩
        clear kx0 fkx0 kx1 fkx1 kx2 fkx2 kx3 fkx3 kx4 fkx4 kx5 fkx5 kx6 fkx6 kx7 fkx7 ky0 fky0 ky1 fky1 ky2 fky2 ky3 fky3 ky4 fky4 ky5 fky5 ky6 fky6 ky7 fky7
        replace X := X.below bb
        replace Y := Y.below bb
        replace B0 := B0.trans (bb.mono B0.size)
        clear bb
        rw [decide_eq_true rfl]
        have kx0 := X.cell 0 _ rfl
        have kx1 := X.cell 1 _ rfl
        have kx2 := X.cell 2 _ rfl
        have kx3 := X.cell 3 _ rfl
        have kx4 := X.cell 4 _ rfl
        have kx5 := X.cell 5 _ rfl
        have kx6 := X.cell 6 _ rfl
        have kx7 := X.cell 7 _ rfl
        have fkx0 := X.frozen 0
        have fkx1 := X.frozen 1
        have fkx2 := X.frozen 2
        have fkx3 := X.frozen 3
        have fkx4 := X.frozen 4
        have fkx5 := X.frozen 5
        have fkx6 := X.frozen 6
        have fkx7 := X.frozen 7
        have ky0 := Y.cell 0 _ rfl
        have ky1 := Y.cell 1 _ rfl
        have ky2 := Y.cell 2 _ rfl
        have ky3 := Y.cell 3 _ rfl
        have ky4 := Y.cell 4 _ rfl
        have ky5 := Y.cell 5 _ rfl
        have ky6 := Y.cell 6 _ rfl
        have ky7 := Y.cell 7 _ rfl
        have fky0 := Y.frozen 0
        have fky1 := Y.frozen 1
        have fky2 := Y.frozen 2
        have fky3 := Y.frozen 3
        have fky4 := Y.frozen 4
        have fky5 := Y.frozen 5
        have fky6 := Y.frozen 6
        have fky7 := Y.frozen 7
        go_wp2_with fail
        go_ret
        exact ⟨rfl, B0⟩
    · have hf : eqSd (x1, x2, x3) (y1, y2, y3) = false := eqSd_no (fun e => h3 (congrArg (·.2.2) e))
      rw [hf]
      subst h1
      clear hf
      have kx0 := X.cell 0 _ rfl
      have kx1 := X.cell 1 _ rfl
      have kx2 := X.cell 2 _ rfl
      have kx3 := X.cell 3 _ rfl
      have kx4 := X.cell 4 _ rfl
      have kx5 := X.cell 5 _ rfl
      have kx6 := X.cell 6 _ rfl
      have kx7 := X.cell 7 _ rfl
      have fkx0 := X.frozen 0
      have fkx1 := X.frozen 1
      have fkx2 := X.frozen 2
      have fkx3 := X.frozen 3
      have fkx4 := X.frozen 4
      have fkx5 := X.frozen 5
      have fkx6 := X.frozen 6
      have fkx7 := X.frozen 7
      have ky0 := Y.cell 0 _ rfl
      have ky1 := Y.cell 1 _ rfl
      have ky2 := Y.cell 2 _ rfl
      have ky3 := Y.cell 3 _ rfl
      have ky4 := Y.cell 4 _ rfl
      have ky5 := Y.cell 5 _ rfl
      have ky6 := Y.cell 6 _ rfl
      have ky7 := Y.cell 7 _ rfl
      have fky0 := Y.frozen 0
      have fky1 := Y.frozen 1
      have fky2 := Y.frozen 2
      have fky3 := Y.frozen 3
      have fky4 := Y.frozen 4
      have fky5 := Y.frozen 5
      have fky6 := Y.frozen 6
      have fky7 := Y.frozen 7
      go_enter Try.func27, Try.ntmps27
      go_wp2_with fail
      refine (rsame6_any _ _ x1 x1 _ (HS.out.op.below B0) (HR.out.op.below B0)).mono ?_
      rintro e1 w1 ⟨rfl, bb⟩
      clear kx0 fkx0 kx1 fkx1 kx2 fkx2 kx3 fkx3 kx4 fkx4 kx5 fkx5 kx6 fkx6 kx7 fkx7 ky0 fky0 ky1 fky1 ky2 fky2 ky3 fky3 ky4 fky4 ky5 fky5 ky6 fky6 ky7 fky7
      replace X := X.below bb
      replace Y := Y.below bb
      replace B0 := B0.trans (bb.mono B0.size)
      clear bb
      rw [decide_eq_true rfl]
      have kx0 := X.cell 0 _ rfl
      have kx1 := X.cell 1 _ rfl
      have kx2 := X.cell 2 _ rfl
      have kx3 := X.cell 3 _ rfl
      have kx4 := X.cell 4 _ rfl
      have kx5 := X.cell 5 _ rfl
      have kx6 := X.cell 6 _ rfl
      have kx7 := X.cell 7 _ rfl
      have fkx0 := X.frozen 0
      have fkx1 := X.frozen 1
      have fkx2 := X.frozen 2
      have fkx3 := X.frozen 3
      have fkx4 := X.frozen 4
      have fkx5 := X.frozen 5
      have fkx6 := X.frozen 6
      have fkx7 := X.frozen 7
      have ky0 := Y.cell 0 _ rfl
      have ky1 := Y.cell 1 _ rfl
      have ky2 := Y.cell 2 _ rfl
      have ky3 := Y.cell 3 _ rfl
      have ky4 := Y.cell 4 _ rfl
      have ky5 := Y.cell 5 _ rfl
      have ky6 := Y.cell 6 _ rfl
      have ky7 := Y.cell 7 _ rfl
      have fky0 := Y.frozen 0
      have fky1 := Y.frozen 1
      have fky2 := Y.frozen 2
      have fky3 := Y.frozen 3
      have fky4 := Y.frozen 4
      have fky5 := Y.frozen 5
      have fky6 := Y.frozen 6
      have fky7 := Y.frozen 7
      go_wp2_with fail
      refine (same_txt _ _ x3 y3 _ (HS.out.ce.below B0) (HR.out.ce.below B0)).mono ?_
      rintro e1 w2 ⟨rfl, bb⟩
      clear kx0 fkx0 kx1 fkx1 kx2 fkx2 kx3 fkx3 kx4 fkx4 kx5 fkx5 kx6 fkx6 kx7 fkx7 ky0 fky0 ky1 fky1 ky2 fky2 ky3 fky3 ky4 fky4 ky5 fky5 ky6 fky6 ky7 fky7
      replace X := X.below bb
      replace Y := Y.below bb
      replace B0 := B0.trans (bb.mono B0.size)
      clear bb
      rw [decide_eq_false h3]
      clear h3
      have kx0 := X.cell 0 _ rfl
      have kx1 := X.cell 1 _ rfl
      have kx2 := X.cell 2 _ rfl
      have kx3 := X.cell 3 _ rfl
      have kx4 := X.cell 4 _ rfl
      have kx5 := X.cell 5 _ rfl
      have kx6 := X.cell 6 _ rfl
      have kx7 := X.cell 7 _ rfl
      have fkx0 := X.frozen 0
      have fkx1 := X.frozen 1
      have fkx2 := X.frozen 2
      have fkx3 := X.frozen 3
      have fkx4 := X.frozen 4
      have fkx5 := X.frozen 5
      have fkx6 := X.frozen 6
      have fkx7 := X.frozen 7
      have ky0 := Y.cell 0 _ rfl
      have ky1 := Y.cell 1 _ rfl
      have ky2 := Y.cell 2 _ rfl
      have ky3 := Y.cell 3 _ rfl
      have ky4 := Y.cell 4 _ rfl
      have ky5 := Y.cell 5 _ rfl
      have ky6 := Y.cell 6 _ rfl
      have ky7 := Y.cell 7 _ rfl
      have fky0 := Y.frozen 0
      have fky1 := Y.frozen 1
      have fky2 := Y.frozen 2
      have fky3 := Y.frozen 3
      have fky4 := Y.frozen 4
      have fky5 := Y.frozen 5
      have fky6 := Y.frozen 6
      have fky7 := Y.frozen 7
      go_wp2_with fail
      go_ret
      exact ⟨rfl, B0⟩
  · have hf : eqSd (x1, x2, x3) (y1, y2, y3) = false := eqSd_no (fun e => h1 (congrArg (·.1) e))
    rw [hf]
    clear hf
    have kx0 := X.cell 0 _ rfl
    have kx1 := X.cell 1 _ rfl
    have kx2 := X.cell 2 _ rfl
    have kx3 := X.cell 3 _ rfl
    have kx4 := X.cell 4 _ rfl
    have kx5 := X.cell 5 _ rfl
    have kx6 := X.cell 6 _ rfl
    have kx7 := X.cell 7 _ rfl
    have fkx0 := X.frozen 0
    have fkx1 := X.frozen 1
    have fkx2 := X.frozen 2
    have fkx3 := X.frozen 3
    have fkx4 := X.frozen 4
    have fkx5 := X.frozen 5
    have fkx6 := X.frozen 6
    have fkx7 := X.frozen 7
    have ky0 := Y.cell 0 _ rfl
    have ky1 := Y.cell 1 _ rfl
    have ky2 := Y.cell 2 _ rfl
    have ky3 := Y.cell 3 _ rfl
    have ky4 := Y.cell 4 _ rfl
    have ky5 := Y.cell 5 _ rfl
    have ky6 := Y.cell 6 _ rfl
    have ky7 := Y.cell 7 _ rfl
    have fky0 := Y.frozen 0
    have fky1 := Y.frozen 1
    have fky2 := Y.frozen 2
    have fky3 := Y.frozen 3
    have fky4 := Y.frozen 4
    have fky5 := Y.frozen 5
    have fky6 := Y.frozen 6
    have fky7 := Y.frozen 7
    go_enter Try.func27, Try.ntmps27
    go_wp2_with fail
    refine (rsame6_any _ _ x1 y1 _ (HS.out.op.below B0) (HR.out.op.below B0)).mono ?_
    rintro e1 w1 ⟨rfl, bb⟩
    clear kx0 fkx0 kx1 fkx1 kx2 fkx2 kx3 fkx3 kx4 fkx4 kx5 fkx5 kx6 fkx6 kx7 fkx7 ky0 fky0 ky1 fky1 ky2 fky2 ky3 fky3 ky4 fky4 ky5 fky5 ky6 fky6 ky7 fky7
    replace X := X.below bb
    replace Y := Y.below bb
    replace B0 := B0.trans (bb.mono B0.size)
    clear bb
    rw [decide_eq_false h1]
    clear h1
    have kx0 := X.cell 0 _ rfl
    have kx1 := X.cell 1 _ rfl
    have kx2 := X.cell 2 _ rfl
    have kx3 := X.cell 3 _ rfl
    have kx4 := X.cell 4 _ rfl
    have kx5 := X.cell 5 _ rfl
    have kx6 := X.cell 6 _ rfl
    have kx7 := X.cell 7 _ rfl
    have fkx0 := X.frozen 0
    have fkx1 := X.frozen 1
    have fkx2 := X.frozen 2
    have fkx3 := X.frozen 3
    have fkx4 := X.frozen 4
    have fkx5 := X.frozen 5
    have fkx6 := X.frozen 6
    have fkx7 := X.frozen 7
    have ky0 := Y.cell 0 _ rfl
    have ky1 := Y.cell 1 _ rfl
    have ky2 := Y.cell 2 _ rfl
    have ky3 := Y.cell 3 _ rfl
    have ky4 := Y.cell 4 _ rfl
    have ky5 := Y.cell 5 _ rfl
    have ky6 := Y.cell 6 _ rfl
    have ky7 := Y.cell 7 _ rfl
    have fky0 := Y.frozen 0
    have fky1 := Y.frozen 1
    have fky2 := Y.frozen 2
    have fky3 := Y.frozen 3
    have fky4 := Y.frozen 4
    have fky5 := Y.frozen 5
    have fky6 := Y.frozen 6
    have fky7 := Y.frozen 7
    go_wp2_with fail
    refine (same_txt _ _ x3 y3 _ (HS.out.ce.below B0) (HR.out.ce.below B0)).mono ?_
    rintro e1 w2 ⟨rfl, bb⟩
    clear kx0 fkx0 kx1 fkx1 kx2 fkx2 kx3 fkx3 kx4 fkx4 kx5 fkx5 kx6 fkx6 kx7 fkx7 ky0 fky0 ky1 fky1 ky2 fky2 ky3 fky3 ky4 fky4 ky5 fky5 ky6 fky6 ky7 fky7
    replace X := X.below bb
    replace Y := Y.below bb
    replace B0 := B0.trans (bb.mono B0.size)
    clear bb
    generalize decide (x3 = y3) = b3
    have kx0 := X.cell 0 _ rfl
    have kx1 := X.cell 1 _ rfl
    have kx2 := X.cell 2 _ rfl
    have kx3 := X.cell 3 _ rfl
    have kx4 := X.cell 4 _ rfl
    have kx5 := X.cell 5 _ rfl
    have kx6 := X.cell 6 _ rfl
    have kx7 := X.cell 7 _ rfl
    have fkx0 := X.frozen 0
    have fkx1 := X.frozen 1
    have fkx2 := X.frozen 2
    have fkx3 := X.frozen 3
    have fkx4 := X.frozen 4
    have fkx5 := X.frozen 5
    have fkx6 := X.frozen 6
    have fkx7 := X.frozen 7
    have ky0 := Y.cell 0 _ rfl
    have ky1 := Y.cell 1 _ rfl
    have ky2 := Y.cell 2 _ rfl
    have ky3 := Y.cell 3 _ rfl
    have ky4 := Y.cell 4 _ rfl
    have ky5 := Y.cell 5 _ rfl
    have ky6 := Y.cell 6 _ rfl
    have ky7 := Y.cell 7 _ rfl
    have fky0 := Y.frozen 0
    have fky1 := Y.frozen 1
    have fky2 := Y.frozen 2
    have fky3 := Y.frozen 3
    have fky4 := Y.frozen 4
    have fky5 := Y.frozen 5
    have fky6 := Y.frozen 6
    have fky7 := Y.frozen 7
    go_wp2_with fail
    go_ret
    exact ⟨rfl, B0⟩
set_option maxHeartbeats 4000000 in
theorem rsame17_any (s p s' p' : List UInt8) (r f r' f' : Int) (o o' : Bool) (vo vh vc uo uh uc : Value) (H' G' : List Value) (x y : Sd) (w : World) (hS : StIn w vo vh vc H' x) (hR : StIn w uo uh uc G' y) :
    Calls Try.prog 19 #[.agg (stC (s, p, r, f, o) vo vh vc), .agg (stC (s', p', r', f', o') uo uh uc)] w fun e w' => e = .returned (.bool (eqSd x y && decide ((s, p, r, f, o) = (s', p', r', f', o')))) ∧ Below w.heap.size w w' := by
  obtain ⟨ao, no, co, ah, nh, ch, ac, nc, cc, rfl, rfl, rfl⟩ := hS.slices
  obtain ⟨bo, mo, dq, bh, mh, dh, bc, mc, dc, rfl, rfl, rfl⟩ := hR.slices
  have HS := Lib.hid hS
  have HR := Lib.hid hR
  clear hS hR
  have X := (SBox.new w 28 #[.string ⟨s.toArray⟩, .string ⟨p.toArray⟩, .int .i64 r, .int .i64 f, .bool o, .slice ao no co, .slice ah nh ch, .slice ac nc cc]).alloc (.cells #[.string ⟨s'.toArray⟩, .string ⟨p'.toArray⟩, .int .i64 r', .int .i64 f', .bool o', .slice bo mo dq, .slice bh mh dh, .slice bc mc dc] 28)
  have Y := sbox2 w (.cells #[.string ⟨s.toArray⟩, .string ⟨p.toArray⟩, .int .i64 r, .int .i64 f, .bool o, .slice ao no co, .slice ah nh ch, .slice ac nc cc] 28) 28 #[.string ⟨s'.toArray⟩, .string ⟨p'.toArray⟩, .int .i64 r', .int .i64 f', .bool o', .slice bo mo dq, .slice bh mh dh, .slice bc mc dc]
  have B0 := bel2 w (.cells #[.string ⟨s.toArray⟩, .string ⟨p.toArray⟩, .int .i64 r, .int .i64 f, .bool o, .slice ao no co, .slice ah nh ch, .slice ac nc cc] 28) (.cells #[.string ⟨s'.toArray⟩, .string ⟨p'.toArray⟩, .int .i64 r', .int .i64 f', .bool o', .slice bo mo dq, .slice bh mh dh, .slice bc mc dc] 28)
  have hc := rhas17_any s p s' p' r f r' f' o o' _ _ _ _ _ _ H' G' x y _ (HS.out.below B0) (HR.out.below B0)
  unfold stC at hc ⊢
  simp only at hc ⊢
  have tq := fun V => run_tpeql V s p s' p' r f r' f' o o'
  have kx0 := X.cell 0 _ rfl
  have kx1 := X.cell 1 _ rfl
  have kx2 := X.cell 2 _ rfl
  have kx3 := X.cell 3 _ rfl
  have kx4 := X.cell 4 _ rfl
  have kx5 := X.cell 5 _ rfl
  have kx6 := X.cell 6 _ rfl
  have kx7 := X.cell 7 _ rfl
  have fkx0 := X.frozen 0
  have fkx1 := X.frozen 1
  have fkx2 := X.frozen 2
  have fkx3 := X.frozen 3
  have fkx4 := X.frozen 4
  have fkx5 := X.frozen 5
  have fkx6 := X.frozen 6
  have fkx7 := X.frozen 7
  have ky0 := Y.cell 0 _ rfl
  have ky1 := Y.cell 1 _ rfl
  have ky2 := Y.cell 2 _ rfl
  have ky3 := Y.cell 3 _ rfl
  have ky4 := Y.cell 4 _ rfl
  have ky5 := Y.cell 5 _ rfl
  have ky6 := Y.cell 6 _ rfl
  have ky7 := Y.cell 7 _ rfl
  have fky0 := Y.frozen 0
  have fky1 := Y.frozen 1
  have fky2 := Y.frozen 2
  have fky3 := Y.frozen 3
  have fky4 := Y.frozen 4
  have fky5 := Y.frozen 5
  have fky6 := Y.frozen 6
  have fky7 := Y.frozen 7
  go_enter Try.func19, Try.ntmps19
  go_wp2_with fail
  refine hc.mono ?_
  rintro e1 w1 ⟨rfl, bb⟩
  clear hc kx0 fkx0 kx1 fkx1 kx2 fkx2 kx3 fkx3 kx4 fkx4 kx5 fkx5 kx6 fkx6 kx7 fkx7 ky0 fky0 ky1 fky1 ky2 fky2 ky3 fky3 ky4 fky4 ky5 fky5 ky6 fky6 ky7 fky7
  replace X := X.below bb
  replace Y := Y.below bb
  replace B0 := B0.trans (bb.mono B0.size)
  clear bb
  cases hx : eqSd x y
  · replace hx := Lib.hid hx
    have kx0 := X.cell 0 _ rfl
    have kx1 := X.cell 1 _ rfl
    have kx2 := X.cell 2 _ rfl
    have kx3 := X.cell 3 _ rfl
    have kx4 := X.cell 4 _ rfl
    have kx5 := X.cell 5 _ rfl
    have kx6 := X.cell 6 _ rfl
    have kx7 := X.cell 7 _ rfl
    have fkx0 := X.frozen 0
    have fkx1 := X.frozen 1
    have fkx2 := X.frozen 2
    have fkx3 := X.frozen 3
    have fkx4 := X.frozen 4
    have fkx5 := X.frozen 5
    have fkx6 := X.frozen 6
    have fkx7 := X.frozen 7
    have ky0 := Y.cell 0 _ rfl
    have ky1 := Y.cell 1 _ rfl
    have ky2 := Y.cell 2 _ rfl
    have ky3 := Y.cell 3 _ rfl
    have ky4 := Y.cell 4 _ rfl
    have ky5 := Y.cell 5 _ rfl
    have ky6 := Y.cell 6 _ rfl
    have ky7 := Y.cell 7 _ rfl
    have fky0 := Y.frozen 0
    have fky1 := Y.frozen 1
    have fky2 := Y.frozen 2
    have fky3 := Y.frozen 3
    have fky4 := Y.frozen 4
    have fky5 := Y.frozen 5
    have fky6 := Y.frozen 6
    have fky7 := Y.frozen 7
    go_wp2_with fail
    go_ret
    rw [hx.out]
    exact ⟨rfl, B0⟩
  · replace hx := Lib.hid hx
    have kx0 := X.cell 0 _ rfl
    have kx1 := X.cell 1 _ rfl
    have kx2 := X.cell 2 _ rfl
    have kx3 := X.cell 3 _ rfl
    have kx4 := X.cell 4 _ rfl
    have kx5 := X.cell 5 _ rfl
    have kx6 := X.cell 6 _ rfl
    have kx7 := X.cell 7 _ rfl
    have fkx0 := X.frozen 0
    have fkx1 := X.frozen 1
    have fkx2 := X.frozen 2
    have fkx3 := X.frozen 3
    have fkx4 := X.frozen 4
    have fkx5 := X.frozen 5
    have fkx6 := X.frozen 6
    have fkx7 := X.frozen 7
    have ky0 := Y.cell 0 _ rfl
    have ky1 := Y.cell 1 _ rfl
    have ky2 := Y.cell 2 _ rfl
    have ky3 := Y.cell 3 _ rfl
    have ky4 := Y.cell 4 _ rfl
    have ky5 := Y.cell 5 _ rfl
    have ky6 := Y.cell 6 _ rfl
    have ky7 := Y.cell 7 _ rfl
    have fky0 := Y.frozen 0
    have fky1 := Y.frozen 1
    have fky2 := Y.frozen 2
    have fky3 := Y.frozen 3
    have fky4 := Y.frozen 4
    have fky5 := Y.frozen 5
    have fky6 := Y.frozen 6
    have fky7 := Y.frozen 7
    go_wp2_with (rw [tq])
    go_ret
    rw [hx.out, Bool.true_and, ← tp_dec17]
    exact ⟨rfl, B0⟩
end Go.Proofs.Ytngllioidfffdaa
