/-
  What store.Put, Seal, Note, New and Arm answer.
-/
import Derived.Test.YtngllioidfffdaaZP17Wr
import Derived.Test.YtngllioidfffdaaZR17Wr
import Derived.Test.YtngllioidfffdaaZP6Bytes
import Derived.Test.YtngllioidfffdaaZEvent3
namespace Go.Proofs.Ytngllioidfffdaa
set_option maxRecDepth 100000
open Go.RowKit
set_option linter.unusedVariables false
attribute [local go_sem] ba_size ba_append
theorem bytE_len17 {x : Ev} (h : mayE x) : (bytE x).length ≤ 80 := (bytE_len x h).1
theorem syS_eq (t : Tp) (x : Sd) (rec : List UInt8) : writeS (t, x) rec true = syS (wrS (t, x) rec).1 (wrS (t, x) rec).2 := writeS_yes _ _
theorem wrS_len {s p : List UInt8} {r f : Int} {o : Bool} {x : Sd} {rec : List UInt8} (hs : s.length ≤ 562949953421312 ∧ p.length ≤ 562949953421312) : (wrS ((s, p, r, f, o), x) rec).1.1.1.length ≤ 1125899906842624 ∧ (wrS ((s, p, r, f, o), x) rec).1.1.2.1.length ≤ 1125899906842624 := by
  have h := @writeT_len s p _ _ rec r f _ _ o _ _ hs rfl
  unfold wrS
  split <;> exact h
set_option maxHeartbeats 4000000 in
theorem pput17_any (s p : List UInt8) (r f : Int) (o : Bool) (vo vh vc : Value) (H' : List Value) (x : Sd) (k t : Int) (a b : List UInt8) (hg : goodW (s, p, r, f, o)) (hsp : s.length ≤ 562949953421312 ∧ p.length ≤ 562949953421312) (w : World) (hS : StIn w vo vh vc H' x) :
    Calls Try.prog 11 #[.agg (stC (s, p, r, f, o) vo vh vc), .agg #[.int .i64 k, .int .i64 t, .string ⟨a.toArray⟩, .string ⟨b.toArray⟩]] w fun e w' => StoRes w vo vh vc H' x (putS ((s, p, r, f, o), x) (k, t, a, b)) e w' := by
  obtain ⟨ao, no, co, ah, nh, ch, ac, nc, cc, rfl, rfl, rfl⟩ := hS.slices
  obtain ⟨⟨n1, _, _, _⟩, ⟨n2, _, _, _⟩, ⟨n3, _, _, _⟩⟩ := hS.nums
  have HN : Hid (x.1.length = no ∧ x.2.1.length = nh ∧ x.2.2.length = nc) := ⟨n1, n2, n3⟩
  have HS := Lib.hid hS
  clear hS n1 n2 n3
  have X := ((SBox.new w 28 #[.string ⟨s.toArray⟩, .string ⟨p.toArray⟩, .int .i64 r, .int .i64 f, .bool o, .slice ao no co, .slice ah nh ch, .slice ac nc cc]).alloc (.cells #[.int .i64 k, .int .i64 t, .string ⟨a.toArray⟩, .string ⟨b.toArray⟩] 30)).alloc (.cells zS17 28)
  have Y := (sbox2 w (.cells #[.string ⟨s.toArray⟩, .string ⟨p.toArray⟩, .int .i64 r, .int .i64 f, .bool o, .slice ao no co, .slice ah nh ch, .slice ac nc cc] 28) 30 #[.int .i64 k, .int .i64 t, .string ⟨a.toArray⟩, .string ⟨b.toArray⟩]).alloc (.cells zS17 28)
  have R := sbox3 w (.cells #[.string ⟨s.toArray⟩, .string ⟨p.toArray⟩, .int .i64 r, .int .i64 f, .bool o, .slice ao no co, .slice ah nh ch, .slice ac nc cc] 28) (.cells #[.int .i64 k, .int .i64 t, .string ⟨a.toArray⟩, .string ⟨b.toArray⟩] 30) 28 zS17
  have B0 := bel3 w (.cells #[.string ⟨s.toArray⟩, .string ⟨p.toArray⟩, .int .i64 r, .int .i64 f, .bool o, .slice ao no co, .slice ah nh ch, .slice ac nc cc] 28) (.cells #[.int .i64 k, .int .i64 t, .string ⟨a.toArray⟩, .string ⟨b.toArray⟩] 30) (.cells zS17 28)
  unfold StoRes stC
  by_cases hM : mayE (k, t, a, b)
  · have hm := bytesE_ok _ hM
    have hB0 := bytE_len17 hM
    obtain ⟨B, hBB⟩ : ∃ B, bytE (k, t, a, b) = B := ⟨_, rfl⟩
    rw [hBB] at hm hB0
    have hB : (101 :: B).length ≤ 1125899906842624 := by simp only [List.length_cons]; omega
    by_cases h64 : 64 ≤ no
    · have hy : putS ((s, p, r, f, o), x) (k, t, a, b) = (((s, p, r, f, o), x), 5) := by unfold putS; rw [if_neg (fun h => h hM), if_pos (by rw [HN.out.1]; exact h64)]
      rw [hy]
      simp only
      have m1 : (64 : Int) ≤ (no : Int) := by omega
      clear hy hB hBB hB0
      have kx0 := X.cell 0 _ rfl
      have kx1 := X.cell 1 _ rfl
      have kx2 := X.cell 2 _ rfl
      have kx3 := X.cell 3 _ rfl
      have kx4 := X.cell 4 _ rfl
      have kx5 := X.cell 5 _ rfl
      have kx6 := X.cell 6 _ rfl
      have kx7 := X.cell 7 _ rfl
      have fkx0 := X.frozen 0
      have fkx1 := X.frozen 1
      have fkx2 := X.frozen 2
      have fkx3 := X.frozen 3
      have fkx4 := X.frozen 4
      have fkx5 := X.frozen 5
      have fkx6 := X.frozen 6
      have fkx7 := X.frozen 7
      have ky0 := Y.cell 0 _ rfl
      have ky1 := Y.cell 1 _ rfl
      have ky2 := Y.cell 2 _ rfl
      have ky3 := Y.cell 3 _ rfl
      have fky0 := Y.frozen 0
      have fky1 := Y.frozen 1
      have fky2 := Y.frozen 2
      have fky3 := Y.frozen 3
      have kr0 := R.cell 0 _ rfl
      have kr1 := R.cell 1 _ rfl
      have kr2 := R.cell 2 _ rfl
      have kr3 := R.cell 3 _ rfl
      have kr4 := R.cell 4 _ rfl
      have kr5 := R.cell 5 _ rfl
      have kr6 := R.cell 6 _ rfl
      have kr7 := R.cell 7 _ rfl
      have fkr0 := R.frozen 0
      have fkr1 := R.frozen 1
      have fkr2 := R.frozen 2
      have fkr3 := R.frozen 3
      have fkr4 := R.frozen 4
      have fkr5 := R.frozen 5
      have fkr6 := R.frozen 6
      have fkr7 := R.frozen 7
      go_enter Try.func11, Try.ntmps11
      go_wp2_with fail
      refine (pbytes6_any k t a b _).mono ?_
      rintro e1 w1 ⟨rfl, bb⟩
      clear kx0 fkx0 kx1 fkx1 kx2 fkx2 kx3 fkx3 kx4 fkx4 kx5 fkx5 kx6 fkx6 kx7 fkx7 ky0 fky0 ky1 fky1 ky2 fky2 ky3 fky3 kr0 fkr0 kr1 fkr1 kr2 fkr2 kr3 fkr3 kr4 fkr4 kr5 fkr5 kr6 fkr6 kr7 fkr7
      replace X := X.below bb
      replace Y := Y.below bb
      replace R := R.below bb
      replace B0 := B0.trans (bb.mono B0.size)
      clear bb
      rw [hm]
      have kx0 := X.cell 0 _ rfl
      have kx1 := X.cell 1 _ rfl
      have kx2 := X.cell 2 _ rfl
      have kx3 := X.cell 3 _ rfl
      have kx4 := X.cell 4 _ rfl
      have kx5 := X.cell 5 _ rfl
      have kx6 := X.cell 6 _ rfl
      have kx7 := X.cell 7 _ rfl
      have fkx0 := X.frozen 0
      have fkx1 := X.frozen 1
      have fkx2 := X.frozen 2
      have fkx3 := X.frozen 3
      have fkx4 := X.frozen 4
      have fkx5 := X.frozen 5
      have fkx6 := X.frozen 6
      have fkx7 := X.frozen 7
      have ky0 := Y.cell 0 _ rfl
      have ky1 := Y.cell 1 _ rfl
      have ky2 := Y.cell 2 _ rfl
      have ky3 := Y.cell 3 _ rfl
      have fky0 := Y.frozen 0
      have fky1 := Y.frozen 1
      have fky2 := Y.frozen 2
      have fky3 := Y.frozen 3
      have kr0 := R.cell 0 _ rfl
      have kr1 := R.cell 1 _ rfl
      have kr2 := R.cell 2 _ rfl
      have kr3 := R.cell 3 _ rfl
      have kr4 := R.cell 4 _ rfl
      have kr5 := R.cell 5 _ rfl
      have kr6 := R.cell 6 _ rfl
      have kr7 := R.cell 7 _ rfl
      have fkr0 := R.frozen 0
      have fkr1 := R.frozen 1
      have fkr2 := R.frozen 2
      have fkr3 := R.frozen 3
      have fkr4 := R.frozen 4
      have fkr5 := R.frozen 5
      have fkr6 := R.frozen 6
      have fkr7 := R.frozen 7
      go_wp2_with fail
      clear kx0 fkx0 kx1 fkx1 kx2 fkx2 kx3 fkx3 kx4 fkx4 kx5 fkx5 kx6 fkx6 kx7 fkx7 ky0 fky0 ky1 fky1 ky2 fky2 ky3 fky3 kr0 fkr0 kr1 fkr1 kr2 fkr2 kr3 fkr3 kr4 fkr4 kr5 fkr5 kr6 fkr6 kr7 fkr7
      have BZ := bel_put8 (B := (w.heap.size + 2)) B0 (by omega)
      refine bodyPost_ret (results_st2 Try.results11 _ _ (w.heap.size + 2) _ rfl rfl (R.put8 _ _ _ _ _ _ _ _)) rfl ⟨_, _, _, rfl, BZ _ _ _ _ _ _ _ _, _, fun V hV hSV => hSV⟩
    · have hy : putS ((s, p, r, f, o), x) (k, t, a, b) = wrS ((s, p, r, f, o), x) (101 :: B) := by unfold putS; rw [if_neg (fun h => h hM), if_neg (by rw [HN.out.1]; exact h64), hBB, writeS_no]
      rw [hy]
      have m1 : decide (64 ≤ no) = false := decide_eq_false h64
      have m2 : (no : Int) < 64 := by omega
      clear hy hBB
      have kx0 := X.cell 0 _ rfl
      have kx1 := X.cell 1 _ rfl
      have kx2 := X.cell 2 _ rfl
      have kx3 := X.cell 3 _ rfl
      have kx4 := X.cell 4 _ rfl
      have kx5 := X.cell 5 _ rfl
      have kx6 := X.cell 6 _ rfl
      have kx7 := X.cell 7 _ rfl
      have fkx0 := X.frozen 0
      have fkx1 := X.frozen 1
      have fkx2 := X.frozen 2
      have fkx3 := X.frozen 3
      have fkx4 := X.frozen 4
      have fkx5 := X.frozen 5
      have fkx6 := X.frozen 6
      have fkx7 := X.frozen 7
      have ky0 := Y.cell 0 _ rfl
      have ky1 := Y.cell 1 _ rfl
      have ky2 := Y.cell 2 _ rfl
      have ky3 := Y.cell 3 _ rfl
      have fky0 := Y.frozen 0
      have fky1 := Y.frozen 1
      have fky2 := Y.frozen 2
      have fky3 := Y.frozen 3
      have kr0 := R.cell 0 _ rfl
      have kr1 := R.cell 1 _ rfl
      have kr2 := R.cell 2 _ rfl
      have kr3 := R.cell 3 _ rfl
      have kr4 := R.cell 4 _ rfl
      have kr5 := R.cell 5 _ rfl
      have kr6 := R.cell 6 _ rfl
      have kr7 := R.cell 7 _ rfl
      have fkr0 := R.frozen 0
      have fkr1 := R.frozen 1
      have fkr2 := R.frozen 2
      have fkr3 := R.frozen 3
      have fkr4 := R.frozen 4
      have fkr5 := R.frozen 5
      have fkr6 := R.frozen 6
      have fkr7 := R.frozen 7
      go_enter Try.func11, Try.ntmps11
      go_wp2_with fail
      refine (pbytes6_any k t a b _).mono ?_
      rintro e1 w1 ⟨rfl, bb⟩
      clear kx0 fkx0 kx1 fkx1 kx2 fkx2 kx3 fkx3 kx4 fkx4 kx5 fkx5 kx6 fkx6 kx7 fkx7 ky0 fky0 ky1 fky1 ky2 fky2 ky3 fky3 kr0 fkr0 kr1 fkr1 kr2 fkr2 kr3 fkr3 kr4 fkr4 kr5 fkr5 kr6 fkr6 kr7 fkr7
      replace X := X.below bb
      replace Y := Y.below bb
      replace R := R.below bb
      replace B0 := B0.trans (bb.mono B0.size)
      clear bb
      rw [hm]
      have kx0 := X.cell 0 _ rfl
      have kx1 := X.cell 1 _ rfl
      have kx2 := X.cell 2 _ rfl
      have kx3 := X.cell 3 _ rfl
      have kx4 := X.cell 4 _ rfl
      have kx5 := X.cell 5 _ rfl
      have kx6 := X.cell 6 _ rfl
      have kx7 := X.cell 7 _ rfl
      have fkx0 := X.frozen 0
      have fkx1 := X.frozen 1
      have fkx2 := X.frozen 2
      have fkx3 := X.frozen 3
      have fkx4 := X.frozen 4
      have fkx5 := X.frozen 5
      have fkx6 := X.frozen 6
      have fkx7 := X.frozen 7
      have ky0 := Y.cell 0 _ rfl
      have ky1 := Y.cell 1 _ rfl
      have ky2 := Y.cell 2 _ rfl
      have ky3 := Y.cell 3 _ rfl
      have fky0 := Y.frozen 0
      have fky1 := Y.frozen 1
      have fky2 := Y.frozen 2
      have fky3 := Y.frozen 3
      have kr0 := R.cell 0 _ rfl
      have kr1 := R.cell 1 _ rfl
      have kr2 := R.cell 2 _ rfl
      have kr3 := R.cell 3 _ rfl
      have kr4 := R.cell 4 _ rfl
      have kr5 := R.cell 5 _ rfl
      have kr6 := R.cell 6 _ rfl
      have kr7 := R.cell 7 _ rfl
      have fkr0 := R.frozen 0
      have fkr1 := R.frozen 1
      have fkr2 := R.frozen 2
      have fkr3 := R.frozen 3
      have fkr4 := R.frozen 4
      have fkr5 := R.frozen 5
      have fkr6 := R.frozen 6
      have fkr7 := R.frozen 7
      go_wp2_with fail
      clear kx0 fkx0 kx1 fkx1 kx2 fkx2 kx3 fkx3 kx4 fkx4 kx5 fkx5 kx6 fkx6 kx7 fkx7 ky0 fky0 ky1 fky1 ky2 fky2 ky3 fky3 kr0 fkr0 kr1 fkr1 kr2 fkr2 kr3 fkr3 kr4 fkr4 kr5 fkr5 kr6 fkr6 kr7 fkr7
      have l1 := Lib.hid R.lt
      refine (pwritten17_any s p r f o _ _ _ H' x (101 :: B) hg hB _ (HS.out.below B0)).mono ?_
      rintro e1 w2 ⟨uo1, uh1, uc1, rfl, bb, G1, hT1⟩
      replace X := X.below bb
      replace Y := Y.below bb
      replace R := R.below bb
      replace B0 := B0.trans (bb.mono B0.size)
      clear bb
      have A1 := agrOf hT1
      have HT1 := Lib.hid hT1
      clear hT1
      obtain ⟨bo1, mo1, dq1, bh1, mh1, dh1, bc1, mc1, dc1, rfl, rfl, rfl⟩ := (HT1.out _ A1 (HS.out.below B0)).slices
      simp only [stC]
      have kx0 := X.cell 0 _ rfl
      have kx1 := X.cell 1 _ rfl
      have kx2 := X.cell 2 _ rfl
      have kx3 := X.cell 3 _ rfl
      have kx4 := X.cell 4 _ rfl
      have kx5 := X.cell 5 _ rfl
      have kx6 := X.cell 6 _ rfl
      have kx7 := X.cell 7 _ rfl
      have fkx0 := X.frozen 0
      have fkx1 := X.frozen 1
      have fkx2 := X.frozen 2
      have fkx3 := X.frozen 3
      have fkx4 := X.frozen 4
      have fkx5 := X.frozen 5
      have fkx6 := X.frozen 6
      have fkx7 := X.frozen 7
      have ky0 := Y.cell 0 _ rfl
      have ky1 := Y.cell 1 _ rfl
      have ky2 := Y.cell 2 _ rfl
      have ky3 := Y.cell 3 _ rfl
      have fky0 := Y.frozen 0
      have fky1 := Y.frozen 1
      have fky2 := Y.frozen 2
      have fky3 := Y.frozen 3
      have kr0 := R.cell 0 _ rfl
      have kr1 := R.cell 1 _ rfl
      have kr2 := R.cell 2 _ rfl
      have kr3 := R.cell 3 _ rfl
      have kr4 := R.cell 4 _ rfl
      have kr5 := R.cell 5 _ rfl
      have kr6 := R.cell 6 _ rfl
      have kr7 := R.cell 7 _ rfl
      have fkr0 := R.frozen 0
      have fkr1 := R.frozen 1
      have fkr2 := R.frozen 2
      have fkr3 := R.frozen 3
      have fkr4 := R.frozen 4
      have fkr5 := R.frozen 5
      have fkr6 := R.frozen 6
      have fkr7 := R.frozen 7
      go_wp2_with fail
      clear kx0 fkx0 kx1 fkx1 kx2 fkx2 kx3 fkx3 kx4 fkx4 kx5 fkx5 kx6 fkx6 kx7 fkx7 ky0 fky0 ky1 fky1 ky2 fky2 ky3 fky3 kr0 fkr0 kr1 fkr1 kr2 fkr2 kr3 fkr3 kr4 fkr4 kr5 fkr5 kr6 fkr6 kr7 fkr7
      have BZ := bel_put8 (B := (w.heap.size + 2)) B0 (by omega)
      refine bodyPost_ret (results_st2 Try.results11 _ _ (w.heap.size + 2) _ rfl rfl (R.put8 _ _ _ _ _ _ _ _)) rfl ⟨_, _, _, rfl, BZ _ _ _ _ _ _ _ _, _, fun V hV hSV => (HT1.out V ((A1.set8 (k := (w.heap.size + 2)) (by have := l1.out; omega) _ _ _ _ _ _ _ _).trans (hV.mono (by have := l1.out; omega))) hSV)⟩
  · have hm := bytesE_no _ hM
    have hy : putS ((s, p, r, f, o), x) (k, t, a, b) = (((s, p, r, f, o), x), 1) := by unfold putS; rw [if_pos hM]
    rw [hy]
    simp only
    clear hy
    have kx0 := X.cell 0 _ rfl
    have kx1 := X.cell 1 _ rfl
    have kx2 := X.cell 2 _ rfl
    have kx3 := X.cell 3 _ rfl
    have kx4 := X.cell 4 _ rfl
    have kx5 := X.cell 5 _ rfl
    have kx6 := X.cell 6 _ rfl
    have kx7 := X.cell 7 _ rfl
    have fkx0 := X.frozen 0
    have fkx1 := X.frozen 1
    have fkx2 := X.frozen 2
    have fkx3 := X.frozen 3
    have fkx4 := X.frozen 4
    have fkx5 := X.frozen 5
    have fkx6 := X.frozen 6
    have fkx7 := X.frozen 7
    have ky0 := Y.cell 0 _ rfl
    have ky1 := Y.cell 1 _ rfl
    have ky2 := Y.cell 2 _ rfl
    have ky3 := Y.cell 3 _ rfl
    have fky0 := Y.frozen 0
    have fky1 := Y.frozen 1
    have fky2 := Y.frozen 2
    have fky3 := Y.frozen 3
    have kr0 := R.cell 0 _ rfl
    have kr1 := R.cell 1 _ rfl
    have kr2 := R.cell 2 _ rfl
    have kr3 := R.cell 3 _ rfl
    have kr4 := R.cell 4 _ rfl
    have kr5 := R.cell 5 _ rfl
    have kr6 := R.cell 6 _ rfl
    have kr7 := R.cell 7 _ rfl
    have fkr0 := R.frozen 0
    have fkr1 := R.frozen 1
    have fkr2 := R.frozen 2
    have fkr3 := R.frozen 3
    have fkr4 := R.frozen 4
    have fkr5 := R.frozen 5
    have fkr6 := R.frozen 6
    have fkr7 := R.frozen 7
    go_enter Try.func11, Try.ntmps11
    go_wp2_with fail
    refine (pbytes6_any k t a b _).mono ?_
    rintro e1 w1 ⟨rfl, bb⟩
    clear kx0 fkx0 kx1 fkx1 kx2 fkx2 kx3 fkx3 kx4 fkx4 kx5 fkx5 kx6 fkx6 kx7 fkx7 ky0 fky0 ky1 fky1 ky2 fky2 ky3 fky3 kr0 fkr0 kr1 fkr1 kr2 fkr2 kr3 fkr3 kr4 fkr4 kr5 fkr5 kr6 fkr6 kr7 fkr7
    replace X := X.below bb
    replace Y := Y.below bb
    replace R := R.below bb
    replace B0 := B0.trans (bb.mono B0.size)
    clear bb
    rw [hm]
    have kx0 := X.cell 0 _ rfl
    have kx1 := X.cell 1 _ rfl
    have kx2 := X.cell 2 _ rfl
    have kx3 := X.cell 3 _ rfl
    have kx4 := X.cell 4 _ rfl
    have kx5 := X.cell 5 _ rfl
    have kx6 := X.cell 6 _ rfl
    have kx7 := X.cell 7 _ rfl
    have fkx0 := X.frozen 0
    have fkx1 := X.frozen 1
    have fkx2 := X.frozen 2
    have fkx3 := X.frozen 3
    have fkx4 := X.frozen 4
    have fkx5 := X.frozen 5
    have fkx6 := X.frozen 6
    have fkx7 := X.frozen 7
    have ky0 := Y.cell 0 _ rfl
    have ky1 := Y.cell 1 _ rfl
    have ky2 := Y.cell 2 _ rfl
    have ky3 := Y.cell 3 _ rfl
    have fky0 := Y.frozen 0
    have fky1 := Y.frozen 1
    have fky2 := Y.frozen 2
    have fky3 := Y.frozen 3
    have kr0 := R.cell 0 _ rfl
    have kr1 := R.cell 1 _ rfl
    have kr2 := R.cell 2 _ rfl
    have kr3 := R.cell 3 _ rfl
    have kr4 := R.cell 4 _ rfl
    have kr5 := R.cell 5 _ rfl
    have kr6 := R.cell 6 _ rfl
    have kr7 := R.cell 7 _ rfl
    have fkr0 := R.frozen 0
    have fkr1 := R.frozen 1
    have fkr2 := R.frozen 2
    have fkr3 := R.frozen 3
    have fkr4 := R.frozen 4
    have fkr5 := R.frozen 5
    have fkr6 := R.frozen 6
    have fkr7 := R.frozen 7
    go_wp2_with fail
    clear kx0 fkx0 kx1 fkx1 kx2 fkx2 kx3 fkx3 kx4 fkx4 kx5 fkx5 kx6 fkx6 kx7 fkx7 ky0 fky0 ky1 fky1 ky2 fky2 ky3 fky3 kr0 fkr0 kr1 fkr1 kr2 fkr2 kr3 fkr3 kr4 fkr4 kr5 fkr5 kr6 fkr6 kr7 fkr7
    have BZ := bel_put8 (B := (w.heap.size + 2)) B0 (by omega)
    refine bodyPost_ret (results_st2 Try.results11 _ _ (w.heap.size + 2) _ rfl rfl (R.put8 _ _ _ _ _ _ _ _)) rfl ⟨_, _, _, rfl, BZ _ _ _ _ _ _ _ _, _, fun V hV hSV => hSV⟩
set_option maxHeartbeats 4000000 in
theorem pseal17_any (s p : List UInt8) (r f : Int) (o : Bool) (vo vh vc : Value) (H' : List Value) (x : Sd) (hg : goodW (s, p, r, f, o)) (hsp : s.length ≤ 562949953421312 ∧ p.length ≤ 562949953421312) (w : World) (hS : StIn w vo vh vc H' x) :
    Calls Try.prog 13 #[.agg (stC (s, p, r, f, o) vo vh vc)] w fun e w' => StoRes w vo vh vc H' x (sealS ((s, p, r, f, o), x)) e w' := by
  obtain ⟨ao, no, co, ah, nh, ch, ac, nc, cc, rfl, rfl, rfl⟩ := hS.slices
  obtain ⟨⟨n1, _, _, _⟩, ⟨n2, _, _, _⟩, ⟨n3, _, _, _⟩⟩ := hS.nums
  have HN : Hid (x.1.length = no ∧ x.2.1.length = nh ∧ x.2.2.length = nc) := ⟨n1, n2, n3⟩
  have HS := Lib.hid hS
  clear hS n1 n2 n3
  have X := (SBox.new w 28 #[.string ⟨s.toArray⟩, .string ⟨p.toArray⟩, .int .i64 r, .int .i64 f, .bool o, .slice ao no co, .slice ah nh ch, .slice ac nc cc]).alloc (.cells zS17 28)
  have R := sbox2 w (.cells #[.string ⟨s.toArray⟩, .string ⟨p.toArray⟩, .int .i64 r, .int .i64 f, .bool o, .slice ao no co, .slice ah nh ch, .slice ac nc cc] 28) 28 zS17
  have B0 := bel2 w (.cells #[.string ⟨s.toArray⟩, .string ⟨p.toArray⟩, .int .i64 r, .int .i64 f, .bool o, .slice ao no co, .slice ah nh ch, .slice ac nc cc] 28) (.cells zS17 28)
  unfold StoRes stC
  by_cases he : x.1 = []
  · have hy : sealS ((s, p, r, f, o), x) = (((s, p, r, f, o), x), 7) := by unfold sealS; rw [if_pos he]
    have n0 : no = 0 := by rw [← HN.out.1, he]; rfl
    subst n0
    rw [hy]
    simp only
    clear hy he
    have kx0 := X.cell 0 _ rfl
    have kx1 := X.cell 1 _ rfl
    have kx2 := X.cell 2 _ rfl
    have kx3 := X.cell 3 _ rfl
    have kx4 := X.cell 4 _ rfl
    have kx5 := X.cell 5 _ rfl
    have kx6 := X.cell 6 _ rfl
    have kx7 := X.cell 7 _ rfl
    have fkx0 := X.frozen 0
    have fkx1 := X.frozen 1
    have fkx2 := X.frozen 2
    have fkx3 := X.frozen 3
    have fkx4 := X.frozen 4
    have fkx5 := X.frozen 5
    have fkx6 := X.frozen 6
    have fkx7 := X.frozen 7
    have kr0 := R.cell 0 _ rfl
    have kr1 := R.cell 1 _ rfl
    have kr2 := R.cell 2 _ rfl
    have kr3 := R.cell 3 _ rfl
    have kr4 := R.cell 4 _ rfl
    have kr5 := R.cell 5 _ rfl
    have kr6 := R.cell 6 _ rfl
    have kr7 := R.cell 7 _ rfl
    have fkr0 := R.frozen 0
    have fkr1 := R.frozen 1
    have fkr2 := R.frozen 2
    have fkr3 := R.frozen 3
    have fkr4 := R.frozen 4
    have fkr5 := R.frozen 5
    have fkr6 := R.frozen 6
    have fkr7 := R.frozen 7
    go_enter Try.func13, Try.ntmps13
    go_wp2_with fail
    exact bodyPost_ret (results_st2 Try.results13 _ _ (w.heap.size + 1) _ rfl rfl (sbox2 _ _ _ _)) rfl ⟨_, _, _, rfl, bel2 w _ _, _, fun V _ h => h⟩
  · have n0 : no ≠ 0 := fun e => he (List.length_eq_zero_iff.1 (HN.out.1.trans e))
    have m0 : ((no : Int) == 0) = false := by rw [beq_eq_false_iff_ne]; omega
    by_cases h8 : 8 ≤ nh
    · have hy : sealS ((s, p, r, f, o), x) = (((s, p, r, f, o), x), 5) := by unfold sealS; rw [if_neg he, if_pos (by rw [HN.out.2.1]; exact h8)]
      rw [hy]
      simp only
      have m1 : (8 : Int) ≤ (nh : Int) := by omega
      clear hy he
      have kx0 := X.cell 0 _ rfl
      have kx1 := X.cell 1 _ rfl
      have kx2 := X.cell 2 _ rfl
      have kx3 := X.cell 3 _ rfl
      have kx4 := X.cell 4 _ rfl
      have kx5 := X.cell 5 _ rfl
      have kx6 := X.cell 6 _ rfl
      have kx7 := X.cell 7 _ rfl
      have fkx0 := X.frozen 0
      have fkx1 := X.frozen 1
      have fkx2 := X.frozen 2
      have fkx3 := X.frozen 3
      have fkx4 := X.frozen 4
      have fkx5 := X.frozen 5
      have fkx6 := X.frozen 6
      have fkx7 := X.frozen 7
      have kr0 := R.cell 0 _ rfl
      have kr1 := R.cell 1 _ rfl
      have kr2 := R.cell 2 _ rfl
      have kr3 := R.cell 3 _ rfl
      have kr4 := R.cell 4 _ rfl
      have kr5 := R.cell 5 _ rfl
      have kr6 := R.cell 6 _ rfl
      have kr7 := R.cell 7 _ rfl
      have fkr0 := R.frozen 0
      have fkr1 := R.frozen 1
      have fkr2 := R.frozen 2
      have fkr3 := R.frozen 3
      have fkr4 := R.frozen 4
      have fkr5 := R.frozen 5
      have fkr6 := R.frozen 6
      have fkr7 := R.frozen 7
      go_enter Try.func13, Try.ntmps13
      go_wp2_with fail
      exact bodyPost_ret (results_st2 Try.results13 _ _ (w.heap.size + 1) _ rfl rfl (sbox2 _ _ _ _)) rfl ⟨_, _, _, rfl, bel2 w _ _, _, fun V _ h => h⟩
    · have hy : sealS ((s, p, r, f, o), x) = syS (wrS ((s, p, r, f, o), x) [115]).1 (wrS ((s, p, r, f, o), x) [115]).2 := by unfold sealS; rw [if_neg he, if_neg (by rw [HN.out.2.1]; exact h8), writeS_yes]
      rw [hy]
      have m1 : decide (8 ≤ nh) = false := decide_eq_false h8
      have m2 : (nh : Int) < 8 := by omega
      clear hy he
      have kx0 := X.cell 0 _ rfl
      have kx1 := X.cell 1 _ rfl
      have kx2 := X.cell 2 _ rfl
      have kx3 := X.cell 3 _ rfl
      have kx4 := X.cell 4 _ rfl
      have kx5 := X.cell 5 _ rfl
      have kx6 := X.cell 6 _ rfl
      have kx7 := X.cell 7 _ rfl
      have fkx0 := X.frozen 0
      have fkx1 := X.frozen 1
      have fkx2 := X.frozen 2
      have fkx3 := X.frozen 3
      have fkx4 := X.frozen 4
      have fkx5 := X.frozen 5
      have fkx6 := X.frozen 6
      have fkx7 := X.frozen 7
      have kr0 := R.cell 0 _ rfl
      have kr1 := R.cell 1 _ rfl
      have kr2 := R.cell 2 _ rfl
      have kr3 := R.cell 3 _ rfl
      have kr4 := R.cell 4 _ rfl
      have kr5 := R.cell 5 _ rfl
      have kr6 := R.cell 6 _ rfl
      have kr7 := R.cell 7 _ rfl
      have fkr0 := R.frozen 0
      have fkr1 := R.frozen 1
      have fkr2 := R.frozen 2
      have fkr3 := R.frozen 3
      have fkr4 := R.frozen 4
      have fkr5 := R.frozen 5
      have fkr6 := R.frozen 6
      have fkr7 := R.frozen 7
      go_enter Try.func13, Try.ntmps13
      go_wp2_with fail
      clear kx0 fkx0 kx1 fkx1 kx2 fkx2 kx3 fkx3 kx4 fkx4 kx5 fkx5 kx6 fkx6 kx7 fkx7 kr0 fkr0 kr1 fkr1 kr2 fkr2 kr3 fkr3 kr4 fkr4 kr5 fkr5 kr6 fkr6 kr7 fkr7
      have l1 := Lib.hid R.lt
      refine (pwritten17_any s p r f o _ _ _ H' x [115] hg (by decide) _ (HS.out.below B0)).mono ?_
      rintro e1 w2 ⟨uo1, uh1, uc1, rfl, bb, G1, hT1⟩
      replace X := X.below bb
      replace R := R.below bb
      replace B0 := B0.trans (bb.mono B0.size)
      clear bb
      have A1 := agrOf hT1
      have HT1 := Lib.hid hT1
      clear hT1
      obtain ⟨bo1, mo1, dq1, bh1, mh1, dh1, bc1, mc1, dc1, rfl, rfl, rfl⟩ := (HT1.out _ A1 (HS.out.below B0)).slices
      simp only [stC]
      have kx0 := X.cell 0 _ rfl
      have kx1 := X.cell 1 _ rfl
      have kx2 := X.cell 2 _ rfl
      have kx3 := X.cell 3 _ rfl
      have kx4 := X.cell 4 _ rfl
      have kx5 := X.cell 5 _ rfl
      have kx6 := X.cell 6 _ rfl
      have kx7 := X.cell 7 _ rfl
      have fkx0 := X.frozen 0
      have fkx1 := X.frozen 1
      have fkx2 := X.frozen 2
      have fkx3 := X.frozen 3
      have fkx4 := X.frozen 4
      have fkx5 := X.frozen 5
      have fkx6 := X.frozen 6
      have fkx7 := X.frozen 7
      have kr0 := R.cell 0 _ rfl
      have kr1 := R.cell 1 _ rfl
      have kr2 := R.cell 2 _ rfl
      have kr3 := R.cell 3 _ rfl
      have kr4 := R.cell 4 _ rfl
      have kr5 := R.cell 5 _ rfl
      have kr6 := R.cell 6 _ rfl
      have kr7 := R.cell 7 _ rfl
      have fkr0 := R.frozen 0
      have fkr1 := R.frozen 1
      have fkr2 := R.frozen 2
      have fkr3 := R.frozen 3
      have fkr4 := R.frozen 4
      have fkr5 := R.frozen 5
      have fkr6 := R.frozen 6
      have fkr7 := R.frozen 7
      go_wp2_with fail
      clear kx0 fkx0 kx1 fkx1 kx2 fkx2 kx3 fkx3 kx4 fkx4 kx5 fkx5 kx6 fkx6 kx7 fkx7 kr0 fkr0 kr1 fkr1 kr2 fkr2 kr3 fkr3 kr4 fkr4 kr5 fkr5 kr6 fkr6 kr7 fkr7
      have l2 := Lib.hid R.lt
      refine (psynced17_any _ _ _ _ _ _ _ _ G1 _ _ (wrS_len hsp) _ (HT1.out _ A1 (HS.out.below B0))).mono ?_
      rintro e1 w3 ⟨uo2, uh2, uc2, rfl, bb, G2, hT2⟩
      replace X := X.below bb
      replace R := R.below bb
      replace B0 := B0.trans (bb.mono B0.size)
      replace A1 := A1.trans (Agr.below bb)
      clear bb
      have A2 := agrOf hT2
      have HT2 := Lib.hid hT2
      clear hT2
      obtain ⟨bo2, mo2, dq2, bh2, mh2, dh2, bc2, mc2, dc2, rfl, rfl, rfl⟩ := (HT2.out _ A2 (HT1.out _ A1 (HS.out.below B0))).slices
      simp only [stC]
      have kx0 := X.cell 0 _ rfl
      have kx1 := X.cell 1 _ rfl
      have kx2 := X.cell 2 _ rfl
      have kx3 := X.cell 3 _ rfl
      have kx4 := X.cell 4 _ rfl
      have kx5 := X.cell 5 _ rfl
      have kx6 := X.cell 6 _ rfl
      have kx7 := X.cell 7 _ rfl
      have fkx0 := X.frozen 0
      have fkx1 := X.frozen 1
      have fkx2 := X.frozen 2
      have fkx3 := X.frozen 3
      have fkx4 := X.frozen 4
      have fkx5 := X.frozen 5
      have fkx6 := X.frozen 6
      have fkx7 := X.frozen 7
      have kr0 := R.cell 0 _ rfl
      have kr1 := R.cell 1 _ rfl
      have kr2 := R.cell 2 _ rfl
      have kr3 := R.cell 3 _ rfl
      have kr4 := R.cell 4 _ rfl
      have kr5 := R.cell 5 _ rfl
      have kr6 := R.cell 6 _ rfl
      have kr7 := R.cell 7 _ rfl
      have fkr0 := R.frozen 0
      have fkr1 := R.frozen 1
      have fkr2 := R.frozen 2
      have fkr3 := R.frozen 3
      have fkr4 := R.frozen 4
      have fkr5 := R.frozen 5
      have fkr6 := R.frozen 6
      have fkr7 := R.frozen 7
      go_wp2_with fail
      clear kx0 fkx0 kx1 fkx1 kx2 fkx2 kx3 fkx3 kx4 fkx4 kx5 fkx5 kx6 fkx6 kx7 fkx7 kr0 fkr0 kr1 fkr1 kr2 fkr2 kr3 fkr3 kr4 fkr4 kr5 fkr5 kr6 fkr6 kr7 fkr7
      have BZ := bel_put8 (B := (w.heap.size + 1)) B0 (by omega)
      refine bodyPost_ret (results_st2 Try.results13 _ _ (w.heap.size + 1) _ rfl rfl (R.put8 _ _ _ _ _ _ _ _)) rfl ⟨_, _, _, rfl, BZ _ _ _ _ _ _ _ _, _, fun V hV hSV => (HT2.out V ((A2.set8 (k := (w.heap.size + 1)) (by have := l2.out; omega) _ _ _ _ _ _ _ _).trans (hV.mono (by have := l2.out; omega))) (HT1.out V ((A1.set8 (k := (w.heap.size + 1)) (by have := l1.out; omega) _ _ _ _ _ _ _ _).trans (hV.mono (by have := l1.out; omega))) hSV))⟩
set_option maxHeartbeats 4000000 in
theorem pnote17_any (s p : List UInt8) (r f : Int) (o : Bool) (vo vh vc : Value) (H' : List Value) (x : Sd) (b : List UInt8) (hb : b.length ≤ 562949953421312) (hg : goodW (s, p, r, f, o)) (hsp : s.length ≤ 562949953421312 ∧ p.length ≤ 562949953421312) (w : World) (hS : StIn w vo vh vc H' x) :
    Calls Try.prog 15 #[.agg (stC (s, p, r, f, o) vo vh vc), .string ⟨b.toArray⟩] w fun e w' => StoRes w vo vh vc H' x (noteS ((s, p, r, f, o), x) b) e w' := by
  obtain ⟨ao, no, co, ah, nh, ch, ac, nc, cc, rfl, rfl, rfl⟩ := hS.slices
  obtain ⟨⟨n1, _, _, _⟩, ⟨n2, _, _, _⟩, ⟨n3, _, _, _⟩⟩ := hS.nums
  have HN : Hid (x.1.length = no ∧ x.2.1.length = nh ∧ x.2.2.length = nc) := ⟨n1, n2, n3⟩
  have HS := Lib.hid hS
  clear hS n1 n2 n3
  have X := (SBox.new w 28 #[.string ⟨s.toArray⟩, .string ⟨p.toArray⟩, .int .i64 r, .int .i64 f, .bool o, .slice ao no co, .slice ah nh ch, .slice ac nc cc]).alloc (.cells zS17 28)
  have R := sbox2 w (.cells #[.string ⟨s.toArray⟩, .string ⟨p.toArray⟩, .int .i64 r, .int .i64 f, .bool o, .slice ao no co, .slice ah nh ch, .slice ac nc cc] 28) 28 zS17
  have B0 := bel2 w (.cells #[.string ⟨s.toArray⟩, .string ⟨p.toArray⟩, .int .i64 r, .int .i64 f, .bool o, .slice ao no co, .slice ah nh ch, .slice ac nc cc] 28) (.cells zS17 28)
  unfold StoRes stC
  by_cases h8 : 16 ≤ nc
  · have hy : noteS ((s, p, r, f, o), x) b = (((s, p, r, f, o), x), 5) := by unfold noteS; rw [if_pos (by rw [HN.out.2.2]; exact h8)]
    rw [hy]
    simp only
    have m1 : (16 : Int) ≤ (nc : Int) := by omega
    clear hy
    have kx0 := X.cell 0 _ rfl
    have kx1 := X.cell 1 _ rfl
    have kx2 := X.cell 2 _ rfl
    have kx3 := X.cell 3 _ rfl
    have kx4 := X.cell 4 _ rfl
    have kx5 := X.cell 5 _ rfl
    have kx6 := X.cell 6 _ rfl
    have kx7 := X.cell 7 _ rfl
    have fkx0 := X.frozen 0
    have fkx1 := X.frozen 1
    have fkx2 := X.frozen 2
    have fkx3 := X.frozen 3
    have fkx4 := X.frozen 4
    have fkx5 := X.frozen 5
    have fkx6 := X.frozen 6
    have fkx7 := X.frozen 7
    have kr0 := R.cell 0 _ rfl
    have kr1 := R.cell 1 _ rfl
    have kr2 := R.cell 2 _ rfl
    have kr3 := R.cell 3 _ rfl
    have kr4 := R.cell 4 _ rfl
    have kr5 := R.cell 5 _ rfl
    have kr6 := R.cell 6 _ rfl
    have kr7 := R.cell 7 _ rfl
    have fkr0 := R.frozen 0
    have fkr1 := R.frozen 1
    have fkr2 := R.frozen 2
    have fkr3 := R.frozen 3
    have fkr4 := R.frozen 4
    have fkr5 := R.frozen 5
    have fkr6 := R.frozen 6
    have fkr7 := R.frozen 7
    go_enter Try.func15, Try.ntmps15
    go_wp2_with fail
    exact bodyPost_ret (results_st2 Try.results15 _ _ (w.heap.size + 1) _ rfl rfl (sbox2 _ _ _ _)) rfl ⟨_, _, _, rfl, bel2 w _ _, _, fun V _ h => h⟩
  · have hy : noteS ((s, p, r, f, o), x) b = syS (wrS ((s, p, r, f, o), x) (99 :: b)).1 (wrS ((s, p, r, f, o), x) (99 :: b)).2 := by unfold noteS; rw [if_neg (by rw [HN.out.2.2]; exact h8), writeS_yes]
    rw [hy]
    have m1 : decide (16 ≤ nc) = false := decide_eq_false h8
    have m2 : (nc : Int) < 16 := by omega
    clear hy
    have kx0 := X.cell 0 _ rfl
    have kx1 := X.cell 1 _ rfl
    have kx2 := X.cell 2 _ rfl
    have kx3 := X.cell 3 _ rfl
    have kx4 := X.cell 4 _ rfl
    have kx5 := X.cell 5 _ rfl
    have kx6 := X.cell 6 _ rfl
    have kx7 := X.cell 7 _ rfl
    have fkx0 := X.frozen 0
    have fkx1 := X.frozen 1
    have fkx2 := X.frozen 2
    have fkx3 := X.frozen 3
    have fkx4 := X.frozen 4
    have fkx5 := X.frozen 5
    have fkx6 := X.frozen 6
    have fkx7 := X.frozen 7
    have kr0 := R.cell 0 _ rfl
    have kr1 := R.cell 1 _ rfl
    have kr2 := R.cell 2 _ rfl
    have kr3 := R.cell 3 _ rfl
    have kr4 := R.cell 4 _ rfl
    have kr5 := R.cell 5 _ rfl
    have kr6 := R.cell 6 _ rfl
    have kr7 := R.cell 7 _ rfl
    have fkr0 := R.frozen 0
    have fkr1 := R.frozen 1
    have fkr2 := R.frozen 2
    have fkr3 := R.frozen 3
    have fkr4 := R.frozen 4
    have fkr5 := R.frozen 5
    have fkr6 := R.frozen 6
    have fkr7 := R.frozen 7
    go_enter Try.func15, Try.ntmps15
    go_wp2_with fail
    clear kx0 fkx0 kx1 fkx1 kx2 fkx2 kx3 fkx3 kx4 fkx4 kx5 fkx5 kx6 fkx6 kx7 fkx7 kr0 fkr0 kr1 fkr1 kr2 fkr2 kr3 fkr3 kr4 fkr4 kr5 fkr5 kr6 fkr6 kr7 fkr7
    have l1 := Lib.hid R.lt
    refine (pwritten17_any s p r f o _ _ _ H' x (99 :: b) hg (by simp only [List.length_cons]; omega) _ (HS.out.below B0)).mono ?_
    rintro e1 w2 ⟨uo1, uh1, uc1, rfl, bb, G1, hT1⟩
    replace X := X.below bb
    replace R := R.below bb
    replace B0 := B0.trans (bb.mono B0.size)
    clear bb
    have A1 := agrOf hT1
    have HT1 := Lib.hid hT1
    clear hT1
    obtain ⟨bo1, mo1, dq1, bh1, mh1, dh1, bc1, mc1, dc1, rfl, rfl, rfl⟩ := (HT1.out _ A1 (HS.out.below B0)).slices
    simp only [stC]
    have kx0 := X.cell 0 _ rfl
    have kx1 := X.cell 1 _ rfl
    have kx2 := X.cell 2 _ rfl
    have kx3 := X.cell 3 _ rfl
    have kx4 := X.cell 4 _ rfl
    have kx5 := X.cell 5 _ rfl
    have kx6 := X.cell 6 _ rfl
    have kx7 := X.cell 7 _ rfl
    have fkx0 := X.frozen 0
    have fkx1 := X.frozen 1
    have fkx2 := X.frozen 2
    have fkx3 := X.frozen 3
    have fkx4 := X.frozen 4
    have fkx5 := X.frozen 5
    have fkx6 := X.frozen 6
    have fkx7 := X.frozen 7
    have kr0 := R.cell 0 _ rfl
    have kr1 := R.cell 1 _ rfl
    have kr2 := R.cell 2 _ rfl
    have kr3 := R.cell 3 _ rfl
    have kr4 := R.cell 4 _ rfl
    have kr5 := R.cell 5 _ rfl
    have kr6 := R.cell 6 _ rfl
    have kr7 := R.cell 7 _ rfl
    have fkr0 := R.frozen 0
    have fkr1 := R.frozen 1
    have fkr2 := R.frozen 2
    have fkr3 := R.frozen 3
    have fkr4 := R.frozen 4
    have fkr5 := R.frozen 5
    have fkr6 := R.frozen 6
    have fkr7 := R.frozen 7
    go_wp2_with fail
    clear kx0 fkx0 kx1 fkx1 kx2 fkx2 kx3 fkx3 kx4 fkx4 kx5 fkx5 kx6 fkx6 kx7 fkx7 kr0 fkr0 kr1 fkr1 kr2 fkr2 kr3 fkr3 kr4 fkr4 kr5 fkr5 kr6 fkr6 kr7 fkr7
    have l2 := Lib.hid R.lt
    refine (psynced17_any _ _ _ _ _ _ _ _ G1 _ _ (wrS_len hsp) _ (HT1.out _ A1 (HS.out.below B0))).mono ?_
    rintro e1 w3 ⟨uo2, uh2, uc2, rfl, bb, G2, hT2⟩
    replace X := X.below bb
    replace R := R.below bb
    replace B0 := B0.trans (bb.mono B0.size)
    replace A1 := A1.trans (Agr.below bb)
    clear bb
    have A2 := agrOf hT2
    have HT2 := Lib.hid hT2
    clear hT2
    obtain ⟨bo2, mo2, dq2, bh2, mh2, dh2, bc2, mc2, dc2, rfl, rfl, rfl⟩ := (HT2.out _ A2 (HT1.out _ A1 (HS.out.below B0))).slices
    simp only [stC]
    have kx0 := X.cell 0 _ rfl
    have kx1 := X.cell 1 _ rfl
    have kx2 := X.cell 2 _ rfl
    have kx3 := X.cell 3 _ rfl
    have kx4 := X.cell 4 _ rfl
    have kx5 := X.cell 5 _ rfl
    have kx6 := X.cell 6 _ rfl
    have kx7 := X.cell 7 _ rfl
    have fkx0 := X.frozen 0
    have fkx1 := X.frozen 1
    have fkx2 := X.frozen 2
    have fkx3 := X.frozen 3
    have fkx4 := X.frozen 4
    have fkx5 := X.frozen 5
    have fkx6 := X.frozen 6
    have fkx7 := X.frozen 7
    have kr0 := R.cell 0 _ rfl
    have kr1 := R.cell 1 _ rfl
    have kr2 := R.cell 2 _ rfl
    have kr3 := R.cell 3 _ rfl
    have kr4 := R.cell 4 _ rfl
    have kr5 := R.cell 5 _ rfl
    have kr6 := R.cell 6 _ rfl
    have kr7 := R.cell 7 _ rfl
    have fkr0 := R.frozen 0
    have fkr1 := R.frozen 1
    have fkr2 := R.frozen 2
    have fkr3 := R.frozen 3
    have fkr4 := R.frozen 4
    have fkr5 := R.frozen 5
    have fkr6 := R.frozen 6
    have fkr7 := R.frozen 7
    go_wp2_with fail
    clear kx0 fkx0 kx1 fkx1 kx2 fkx2 kx3 fkx3 kx4 fkx4 kx5 fkx5 kx6 fkx6 kx7 fkx7 kr0 fkr0 kr1 fkr1 kr2 fkr2 kr3 fkr3 kr4 fkr4 kr5 fkr5 kr6 fkr6 kr7 fkr7
    have BZ := bel_put8 (B := (w.heap.size + 1)) B0 (by omega)
    refine bodyPost_ret (results_st2 Try.results15 _ _ (w.heap.size + 1) _ rfl rfl (R.put8 _ _ _ _ _ _ _ _)) rfl ⟨_, _, _, rfl, BZ _ _ _ _ _ _ _ _, _, fun V hV hSV => (HT2.out V ((A2.set8 (k := (w.heap.size + 1)) (by have := l2.out; omega) _ _ _ _ _ _ _ _).trans (hV.mono (by have := l2.out; omega))) (HT1.out V ((A1.set8 (k := (w.heap.size + 1)) (by have := l1.out; omega) _ _ _ _ _ _ _ _).trans (hV.mono (by have := l1.out; omega))) hSV))⟩
theorem pnew17_any (n : Int) (w : World) :
    Calls Try.prog 20 #[.int .i64 n] w fun e w' => StoRes w (.slice none 0 0) (.slice none 0 0) (.slice none 0 0) [] ([], [], []) (newS n) e w' := by
  obtain ⟨s', p', r', f', o', e, hW⟩ : ∃ a b c d g e, newT n = ((a, b, c, d, g), e) := ⟨_, _, _, _, _, _, rfl⟩
  have hy : newS n = (((s', p', r', f', o'), ([], [], [])), e) := by unfold newS; rw [hW]
  rw [hy]
  unfold StoRes stC
  simp only
  have R := SBox.new w 28 zS17
  have B0 := bel1 w (.cells zS17 28)
  have kz0 := R.cell 0 _ rfl
  have kz1 := R.cell 1 _ rfl
  have kz2 := R.cell 2 _ rfl
  have kz3 := R.cell 3 _ rfl
  have kz4 := R.cell 4 _ rfl
  have kz5 := R.cell 5 _ rfl
  have kz6 := R.cell 6 _ rfl
  have kz7 := R.cell 7 _ rfl
  have fkz0 := R.frozen 0
  have fkz1 := R.frozen 1
  have fkz2 := R.frozen 2
  have fkz3 := R.frozen 3
  have fkz4 := R.frozen 4
  have fkz5 := R.frozen 5
  have fkz6 := R.frozen 6
  have fkz7 := R.frozen 7
  go_enter Try.func20, Try.ntmps20
  go_wp2_with fail
  refine (pn16 n hW _).mono ?_
  rintro e1 w1 ⟨rfl, bb⟩
  clear kz0 fkz0 kz1 fkz1 kz2 fkz2 kz3 fkz3 kz4 fkz4 kz5 fkz5 kz6 fkz6 kz7 fkz7
  replace R := (R.below bb).alloc (.cells #[.string ⟨s'.toArray⟩, .string ⟨p'.toArray⟩, .int .i64 r', .int .i64 f', .bool o'] 23)
  replace B0 := B0.trans (bb.mono B0.size)
  replace B0 := B0.alloc B0.size (.cells #[.string ⟨s'.toArray⟩, .string ⟨p'.toArray⟩, .int .i64 r', .int .i64 f', .bool o'] 23)
  clear bb
  have kz0 := R.cell 0 _ rfl
  have kz1 := R.cell 1 _ rfl
  have kz2 := R.cell 2 _ rfl
  have kz3 := R.cell 3 _ rfl
  have kz4 := R.cell 4 _ rfl
  have kz5 := R.cell 5 _ rfl
  have kz6 := R.cell 6 _ rfl
  have kz7 := R.cell 7 _ rfl
  have fkz0 := R.frozen 0
  have fkz1 := R.frozen 1
  have fkz2 := R.frozen 2
  have fkz3 := R.frozen 3
  have fkz4 := R.frozen 4
  have fkz5 := R.frozen 5
  have fkz6 := R.frozen 6
  have fkz7 := R.frozen 7
  go_wp2_with fail
  have BZ := bel_put8 (B := w.heap.size) B0 (Nat.le_refl _)
  exact bodyPost_ret (results_st2 Try.results20 _ _ w.heap.size _ rfl rfl (R.put8 _ _ _ _ _ _ _ _)) rfl ⟨_, _, _, rfl, BZ _ _ _ _ _ _ _ _, _, fun V _ h => h⟩
set_option maxHeartbeats 1000000 in
theorem parm17_any (s p : List UInt8) (r f : Int) (o : Bool) (vo vh vc : Value) (H' : List Value) (x : Sd) (n : Int) (w : World) (hS : StIn w vo vh vc H' x) :
    Calls Try.prog 22 #[.agg (stC (s, p, r, f, o) vo vh vc), .int .i64 n] w fun e w' => e = .returned (.agg (stC (armT (s, p, r, f, o) n) vo vh vc)) ∧ Below w.heap.size w w' := by
  obtain ⟨ao, no, co, ah, nh, ch, ac, nc, cc, rfl, rfl, rfl⟩ := hS.slices
  obtain ⟨⟨n1, _, _, _⟩, ⟨n2, _, _, _⟩, ⟨n3, _, _, _⟩⟩ := hS.nums
  have HN : Hid (x.1.length = no ∧ x.2.1.length = nh ∧ x.2.2.length = nc) := ⟨n1, n2, n3⟩
  have HS := Lib.hid hS
  clear hS n1 n2 n3
  have X := (SBox.new w 28 #[.string ⟨s.toArray⟩, .string ⟨p.toArray⟩, .int .i64 r, .int .i64 f, .bool o, .slice ao no co, .slice ah nh ch, .slice ac nc cc]).alloc (.cells zS17 28)
  have R := sbox2 w (.cells #[.string ⟨s.toArray⟩, .string ⟨p.toArray⟩, .int .i64 r, .int .i64 f, .bool o, .slice ao no co, .slice ah nh ch, .slice ac nc cc] 28) 28 zS17
  have B0 := bel2 w (.cells #[.string ⟨s.toArray⟩, .string ⟨p.toArray⟩, .int .i64 r, .int .i64 f, .bool o, .slice ao no co, .slice ah nh ch, .slice ac nc cc] 28) (.cells zS17 28)
  obtain ⟨s', p', r', f', o', hW⟩ : ∃ a b c d g, armT (s, p, r, f, o) n = (a, b, c, d, g) := ⟨_, _, _, _, _, rfl⟩
  rw [hW]
  unfold stC
  simp only
  have kx0 := X.cell 0 _ rfl
  have kx1 := X.cell 1 _ rfl
  have kx2 := X.cell 2 _ rfl
  have kx3 := X.cell 3 _ rfl
  have kx4 := X.cell 4 _ rfl
  have kx5 := X.cell 5 _ rfl
  have kx6 := X.cell 6 _ rfl
  have kx7 := X.cell 7 _ rfl
  have fkx0 := X.frozen 0
  have fkx1 := X.frozen 1
  have fkx2 := X.frozen 2
  have fkx3 := X.frozen 3
  have fkx4 := X.frozen 4
  have fkx5 := X.frozen 5
  have fkx6 := X.frozen 6
  have fkx7 := X.frozen 7
  have kr0 := R.cell 0 _ rfl
  have kr1 := R.cell 1 _ rfl
  have kr2 := R.cell 2 _ rfl
  have kr3 := R.cell 3 _ rfl
  have kr4 := R.cell 4 _ rfl
  have kr5 := R.cell 5 _ rfl
  have kr6 := R.cell 6 _ rfl
  have kr7 := R.cell 7 _ rfl
  have fkr0 := R.frozen 0
  have fkr1 := R.frozen 1
  have fkr2 := R.frozen 2
  have fkr3 := R.frozen 3
  have fkr4 := R.frozen 4
  have fkr5 := R.frozen 5
  have fkr6 := R.frozen 6
  have fkr7 := R.frozen 7
  go_enter Try.func22, Try.ntmps22
  go_wp2_with fail
  refine (pa16 hW _).mono ?_
  rintro e1 w1 ⟨rfl, bb⟩
  clear kx0 fkx0 kx1 fkx1 kx2 fkx2 kx3 fkx3 kx4 fkx4 kx5 fkx5 kx6 fkx6 kx7 fkx7 kr0 fkr0 kr1 fkr1 kr2 fkr2 kr3 fkr3 kr4 fkr4 kr5 fkr5 kr6 fkr6 kr7 fkr7
  replace X := X.below bb
  replace R := R.below bb
  replace B0 := B0.trans (bb.mono B0.size)
  clear bb
  have kx0 := X.cell 0 _ rfl
  have kx1 := X.cell 1 _ rfl
  have kx2 := X.cell 2 _ rfl
  have kx3 := X.cell 3 _ rfl
  have kx4 := X.cell 4 _ rfl
  have kx5 := X.cell 5 _ rfl
  have kx6 := X.cell 6 _ rfl
  have kx7 := X.cell 7 _ rfl
  have fkx0 := X.frozen 0
  have fkx1 := X.frozen 1
  have fkx2 := X.frozen 2
  have fkx3 := X.frozen 3
  have fkx4 := X.frozen 4
  have fkx5 := X.frozen 5
  have fkx6 := X.frozen 6
  have fkx7 := X.frozen 7
  have kr0 := R.cell 0 _ rfl
  have kr1 := R.cell 1 _ rfl
  have kr2 := R.cell 2 _ rfl
  have kr3 := R.cell 3 _ rfl
  have kr4 := R.cell 4 _ rfl
  have kr5 := R.cell 5 _ rfl
  have kr6 := R.cell 6 _ rfl
  have kr7 := R.cell 7 _ rfl
  have fkr0 := R.frozen 0
  have fkr1 := R.frozen 1
  have fkr2 := R.frozen 2
  have fkr3 := R.frozen 3
  have fkr4 := R.frozen 4
  have fkr5 := R.frozen 5
  have fkr6 := R.frozen 6
  have fkr7 := R.frozen 7
  go_wp2_with fail
  clear kx0 fkx0 kx1 fkx1 kx2 fkx2 kx3 fkx3 kx4 fkx4 kx5 fkx5 kx6 fkx6 kx7 fkx7 kr0 fkr0 kr1 fkr1 kr2 fkr2 kr3 fkr3 kr4 fkr4 kr5 fkr5 kr6 fkr6 kr7 fkr7
  replace R := R.other5 (k := w.heap.size) (by omega) (.string ⟨s'.toArray⟩) (.string ⟨p'.toArray⟩) (.int .i64 r') (.int .i64 f') (.bool o')
  replace B0 := bel_put5 (B := w.heap.size) B0 (Nat.le_refl _) (.string ⟨s'.toArray⟩) (.string ⟨p'.toArray⟩) (.int .i64 r') (.int .i64 f') (.bool o')
  have BZ := bel_put8 (B := w.heap.size + 1) B0 (by omega)
  exact bodyPost_ret (results_st Try.results22 _ _ (w.heap.size + 1) _ rfl rfl (R.put8 _ _ _ _ _ _ _ _)) rfl ⟨rfl, BZ _ _ _ _ _ _ _ _⟩
end Go.Proofs.Ytngllioidfffdaa
