/-
  What the laws of stores do: one act.
-/
import Derived.Test.YtngllioidfffdaaZP17Put
import Derived.Test.YtngllioidfffdaaZKeep17
namespace Go.Proofs.Ytngllioidfffdaa
set_option maxRecDepth 100000
open Go.RowKit
set_option linter.unusedVariables false
attribute [local go_sem] ba_size
set_option maxHeartbeats 4000000 in
theorem does17_any (s p : List UInt8) (r f : Int) (o : Bool) (vo vh vc : Value) (H' : List Value) (x : Sd) (a0 a1 e0 e1 : Int) (e2 e3 a3 : List UInt8) (h3 : a3.length ≤ 562949953421312) (hg : goodW (s, p, r, f, o)) (hsp : s.length ≤ 562949953421312 ∧ p.length ≤ 562949953421312) (w : World) (hS : StIn w vo vh vc H' x) :
    Calls Try.prog 28 #[.agg (stC (s, p, r, f, o) vo vh vc), .agg #[.int .i64 a0, .int .i64 a1, .int .i64 e0, .int .i64 e1, .string ⟨e2.toArray⟩, .string ⟨e3.toArray⟩, .string ⟨a3.toArray⟩]] w fun e w' => StoRes w vo vh vc H' x (actS ((s, p, r, f, o), x) (a0, a1, (e0, e1, e2, e3), a3)) e w' := by
  obtain ⟨ao, no, co, ah, nh, ch, ac, nc, cc, rfl, rfl, rfl⟩ := hS.slices
  obtain ⟨⟨n1, _, _, _⟩, ⟨n2, _, _, _⟩, ⟨n3, _, _, _⟩⟩ := hS.nums
  have HN : Hid (x.1.length = no ∧ x.2.1.length = nh ∧ x.2.2.length = nc) := ⟨n1, n2, n3⟩
  have HS := Lib.hid hS
  clear hS n1 n2 n3
  unfold StoRes stC actS
  simp only
  by_cases c1 : a0 = 1
  · subst c1
    rw [if_pos rfl]
    have X := ((SBox.new w 28 #[.string ⟨s.toArray⟩, .string ⟨p.toArray⟩, .int .i64 r, .int .i64 f, .bool o, .slice ao no co, .slice ah nh ch, .slice ac nc cc]).alloc (.cells #[.int .i64 1, .int .i64 a1, .int .i64 e0, .int .i64 e1, .string ⟨e2.toArray⟩, .string ⟨e3.toArray⟩, .string ⟨a3.toArray⟩] 56)).alloc (.cells zS17 28)
    have Y := (sbox2 w (.cells #[.string ⟨s.toArray⟩, .string ⟨p.toArray⟩, .int .i64 r, .int .i64 f, .bool o, .slice ao no co, .slice ah nh ch, .slice ac nc cc] 28) 56 #[.int .i64 1, .int .i64 a1, .int .i64 e0, .int .i64 e1, .string ⟨e2.toArray⟩, .string ⟨e3.toArray⟩, .string ⟨a3.toArray⟩]).alloc (.cells zS17 28)
    have R := sbox3 w (.cells #[.string ⟨s.toArray⟩, .string ⟨p.toArray⟩, .int .i64 r, .int .i64 f, .bool o, .slice ao no co, .slice ah nh ch, .slice ac nc cc] 28) (.cells #[.int .i64 1, .int .i64 a1, .int .i64 e0, .int .i64 e1, .string ⟨e2.toArray⟩, .string ⟨e3.toArray⟩, .string ⟨a3.toArray⟩] 56) 28 zS17
    have B0 := bel3 w (.cells #[.string ⟨s.toArray⟩, .string ⟨p.toArray⟩, .int .i64 r, .int .i64 f, .bool o, .slice ao no co, .slice ah nh ch, .slice ac nc cc] 28) (.cells #[.int .i64 1, .int .i64 a1, .int .i64 e0, .int .i64 e1, .string ⟨e2.toArray⟩, .string ⟨e3.toArray⟩, .string ⟨a3.toArray⟩] 56) (.cells zS17 28)
    have kx0 := X.cell 0 _ rfl
    have kx1 := X.cell 1 _ rfl
    have kx2 := X.cell 2 _ rfl
    have kx3 := X.cell 3 _ rfl
    have kx4 := X.cell 4 _ rfl
    have kx5 := X.cell 5 _ rfl
    have kx6 := X.cell 6 _ rfl
    have kx7 := X.cell 7 _ rfl
    have fkx0 := X.frozen 0
    have fkx1 := X.frozen 1
    have fkx2 := X.frozen 2
    have fkx3 := X.frozen 3
    have fkx4 := X.frozen 4
    have fkx5 := X.frozen 5
    have fkx6 := X.frozen 6
    have fkx7 := X.frozen 7
    have ky0 := Y.cell 0 _ rfl
    have ky1 := Y.cell 1 _ rfl
    have ky2 := Y.cell 2 _ rfl
    have ky3 := Y.cell 3 _ rfl
    have ky4 := Y.cell 4 _ rfl
    have ky5 := Y.cell 5 _ rfl
    have ky6 := Y.cell 6 _ rfl
    have fky0 := Y.frozen 0
    have fky1 := Y.frozen 1
    have fky2 := Y.frozen 2
    have fky3 := Y.frozen 3
    have fky4 := Y.frozen 4
    have fky5 := Y.frozen 5
    have fky6 := Y.frozen 6
    have kr0 := R.cell 0 _ rfl
    have kr1 := R.cell 1 _ rfl
    have kr2 := R.cell 2 _ rfl
    have kr3 := R.cell 3 _ rfl
    have kr4 := R.cell 4 _ rfl
    have kr5 := R.cell 5 _ rfl
    have kr6 := R.cell 6 _ rfl
    have kr7 := R.cell 7 _ rfl
    have fkr0 := R.frozen 0
    have fkr1 := R.frozen 1
    have fkr2 := R.frozen 2
    have fkr3 := R.frozen 3
    have fkr4 := R.frozen 4
    have fkr5 := R.frozen 5
    have fkr6 := R.frozen 6
    have fkr7 := R.frozen 7
    go_enter Try.func28, Try.ntmps28
    go_wp2_with fail
    clear kx0 fkx0 kx1 fkx1 kx2 fkx2 kx3 fkx3 kx4 fkx4 kx5 fkx5 kx6 fkx6 kx7 fkx7 ky0 fky0 ky1 fky1 ky2 fky2 ky3 fky3 ky4 fky4 ky5 fky5 ky6 fky6 kr0 fkr0 kr1 fkr1 kr2 fkr2 kr3 fkr3 kr4 fkr4 kr5 fkr5 kr6 fkr6 kr7 fkr7
    have l1 := Lib.hid R.lt
    refine (pput17_any s p r f o _ _ _ H' x e0 e1 e2 e3 hg hsp _ (HS.out.below B0)).mono ?_
    rintro e1 w2 ⟨uo1, uh1, uc1, rfl, bb, G1, hT1⟩
    replace X := X.below bb
    replace Y := Y.below bb
    replace R := R.below bb
    replace B0 := B0.trans (bb.mono B0.size)
    clear bb
    have A1 := agrOf hT1
    have HT1 := Lib.hid hT1
    clear hT1
    obtain ⟨bo1, mo1, dq1, bh1, mh1, dh1, bc1, mc1, dc1, rfl, rfl, rfl⟩ := (HT1.out _ A1 (HS.out.below B0)).slices
    simp only [stC]
    have kx0 := X.cell 0 _ rfl
    have kx1 := X.cell 1 _ rfl
    have kx2 := X.cell 2 _ rfl
    have kx3 := X.cell 3 _ rfl
    have kx4 := X.cell 4 _ rfl
    have kx5 := X.cell 5 _ rfl
    have kx6 := X.cell 6 _ rfl
    have kx7 := X.cell 7 _ rfl
    have fkx0 := X.frozen 0
    have fkx1 := X.frozen 1
    have fkx2 := X.frozen 2
    have fkx3 := X.frozen 3
    have fkx4 := X.frozen 4
    have fkx5 := X.frozen 5
    have fkx6 := X.frozen 6
    have fkx7 := X.frozen 7
    have ky0 := Y.cell 0 _ rfl
    have ky1 := Y.cell 1 _ rfl
    have ky2 := Y.cell 2 _ rfl
    have ky3 := Y.cell 3 _ rfl
    have ky4 := Y.cell 4 _ rfl
    have ky5 := Y.cell 5 _ rfl
    have ky6 := Y.cell 6 _ rfl
    have fky0 := Y.frozen 0
    have fky1 := Y.frozen 1
    have fky2 := Y.frozen 2
    have fky3 := Y.frozen 3
    have fky4 := Y.frozen 4
    have fky5 := Y.frozen 5
    have fky6 := Y.frozen 6
    have kr0 := R.cell 0 _ rfl
    have kr1 := R.cell 1 _ rfl
    have kr2 := R.cell 2 _ rfl
    have kr3 := R.cell 3 _ rfl
    have kr4 := R.cell 4 _ rfl
    have kr5 := R.cell 5 _ rfl
    have kr6 := R.cell 6 _ rfl
    have kr7 := R.cell 7 _ rfl
    have fkr0 := R.frozen 0
    have fkr1 := R.frozen 1
    have fkr2 := R.frozen 2
    have fkr3 := R.frozen 3
    have fkr4 := R.frozen 4
    have fkr5 := R.frozen 5
    have fkr6 := R.frozen 6
    have fkr7 := R.frozen 7
    go_wp2_with fail
    clear kx0 fkx0 kx1 fkx1 kx2 fkx2 kx3 fkx3 kx4 fkx4 kx5 fkx5 kx6 fkx6 kx7 fkx7 ky0 fky0 ky1 fky1 ky2 fky2 ky3 fky3 ky4 fky4 ky5 fky5 ky6 fky6 kr0 fkr0 kr1 fkr1 kr2 fkr2 kr3 fkr3 kr4 fkr4 kr5 fkr5 kr6 fkr6 kr7 fkr7
    have BZ := bel_put8 (B := (w.heap.size + 2)) B0 (by omega)
    refine bodyPost_ret (results_st2 Try.results28 _ _ (w.heap.size + 2) _ rfl rfl (R.put8 _ _ _ _ _ _ _ _)) rfl ⟨_, _, _, rfl, BZ _ _ _ _ _ _ _ _, _, fun V hV hSV => (HT1.out V ((A1.set8 (k := (w.heap.size + 2)) (by have := l1.out; omega) _ _ _ _ _ _ _ _).trans (hV.mono (by have := l1.out; omega))) hSV)⟩
  · rw [if_neg c1]
    have n1 : (a0 == 1) = false := beq_eq_false_iff_ne.2 c1
    by_cases c2 : a0 = 2
    · subst c2
      rw [if_pos rfl]
      have X := ((SBox.new w 28 #[.string ⟨s.toArray⟩, .string ⟨p.toArray⟩, .int .i64 r, .int .i64 f, .bool o, .slice ao no co, .slice ah nh ch, .slice ac nc cc]).alloc (.cells #[.int .i64 2, .int .i64 a1, .int .i64 e0, .int .i64 e1, .string ⟨e2.toArray⟩, .string ⟨e3.toArray⟩, .string ⟨a3.toArray⟩] 56)).alloc (.cells zS17 28)
      have Y := (sbox2 w (.cells #[.string ⟨s.toArray⟩, .string ⟨p.toArray⟩, .int .i64 r, .int .i64 f, .bool o, .slice ao no co, .slice ah nh ch, .slice ac nc cc] 28) 56 #[.int .i64 2, .int .i64 a1, .int .i64 e0, .int .i64 e1, .string ⟨e2.toArray⟩, .string ⟨e3.toArray⟩, .string ⟨a3.toArray⟩]).alloc (.cells zS17 28)
      have R := sbox3 w (.cells #[.string ⟨s.toArray⟩, .string ⟨p.toArray⟩, .int .i64 r, .int .i64 f, .bool o, .slice ao no co, .slice ah nh ch, .slice ac nc cc] 28) (.cells #[.int .i64 2, .int .i64 a1, .int .i64 e0, .int .i64 e1, .string ⟨e2.toArray⟩, .string ⟨e3.toArray⟩, .string ⟨a3.toArray⟩] 56) 28 zS17
      have B0 := bel3 w (.cells #[.string ⟨s.toArray⟩, .string ⟨p.toArray⟩, .int .i64 r, .int .i64 f, .bool o, .slice ao no co, .slice ah nh ch, .slice ac nc cc] 28) (.cells #[.int .i64 2, .int .i64 a1, .int .i64 e0, .int .i64 e1, .string ⟨e2.toArray⟩, .string ⟨e3.toArray⟩, .string ⟨a3.toArray⟩] 56) (.cells zS17 28)
      have kx0 := X.cell 0 _ rfl
      have kx1 := X.cell 1 _ rfl
      have kx2 := X.cell 2 _ rfl
      have kx3 := X.cell 3 _ rfl
      have kx4 := X.cell 4 _ rfl
      have kx5 := X.cell 5 _ rfl
      have kx6 := X.cell 6 _ rfl
      have kx7 := X.cell 7 _ rfl
      have fkx0 := X.frozen 0
      have fkx1 := X.frozen 1
      have fkx2 := X.frozen 2
      have fkx3 := X.frozen 3
      have fkx4 := X.frozen 4
      have fkx5 := X.frozen 5
      have fkx6 := X.frozen 6
      have fkx7 := X.frozen 7
      have ky0 := Y.cell 0 _ rfl
      have ky1 := Y.cell 1 _ rfl
      have ky2 := Y.cell 2 _ rfl
      have ky3 := Y.cell 3 _ rfl
      have ky4 := Y.cell 4 _ rfl
      have ky5 := Y.cell 5 _ rfl
      have ky6 := Y.cell 6 _ rfl
      have fky0 := Y.frozen 0
      have fky1 := Y.frozen 1
      have fky2 := Y.frozen 2
      have fky3 := Y.frozen 3
      have fky4 := Y.frozen 4
      have fky5 := Y.frozen 5
      have fky6 := Y.frozen 6
      have kr0 := R.cell 0 _ rfl
      have kr1 := R.cell 1 _ rfl
      have kr2 := R.cell 2 _ rfl
      have kr3 := R.cell 3 _ rfl
      have kr4 := R.cell 4 _ rfl
      have kr5 := R.cell 5 _ rfl
      have kr6 := R.cell 6 _ rfl
      have kr7 := R.cell 7 _ rfl
      have fkr0 := R.frozen 0
      have fkr1 := R.frozen 1
      have fkr2 := R.frozen 2
      have fkr3 := R.frozen 3
      have fkr4 := R.frozen 4
      have fkr5 := R.frozen 5
      have fkr6 := R.frozen 6
      have fkr7 := R.frozen 7
      go_enter Try.func28, Try.ntmps28
      go_wp2_with fail
      clear kx0 fkx0 kx1 fkx1 kx2 fkx2 kx3 fkx3 kx4 fkx4 kx5 fkx5 kx6 fkx6 kx7 fkx7 ky0 fky0 ky1 fky1 ky2 fky2 ky3 fky3 ky4 fky4 ky5 fky5 ky6 fky6 kr0 fkr0 kr1 fkr1 kr2 fkr2 kr3 fkr3 kr4 fkr4 kr5 fkr5 kr6 fkr6 kr7 fkr7
      have l1 := Lib.hid R.lt
      refine (pseal17_any s p r f o _ _ _ H' x hg hsp _ (HS.out.below B0)).mono ?_
      rintro e1 w2 ⟨uo1, uh1, uc1, rfl, bb, G1, hT1⟩
      replace X := X.below bb
      replace Y := Y.below bb
      replace R := R.below bb
      replace B0 := B0.trans (bb.mono B0.size)
      clear bb
      have A1 := agrOf hT1
      have HT1 := Lib.hid hT1
      clear hT1
      obtain ⟨bo1, mo1, dq1, bh1, mh1, dh1, bc1, mc1, dc1, rfl, rfl, rfl⟩ := (HT1.out _ A1 (HS.out.below B0)).slices
      simp only [stC]
      have kx0 := X.cell 0 _ rfl
      have kx1 := X.cell 1 _ rfl
      have kx2 := X.cell 2 _ rfl
      have kx3 := X.cell 3 _ rfl
      have kx4 := X.cell 4 _ rfl
      have kx5 := X.cell 5 _ rfl
      have kx6 := X.cell 6 _ rfl
      have kx7 := X.cell 7 _ rfl
      have fkx0 := X.frozen 0
      have fkx1 := X.frozen 1
      have fkx2 := X.frozen 2
      have fkx3 := X.frozen 3
      have fkx4 := X.frozen 4
      have fkx5 := X.frozen 5
      have fkx6 := X.frozen 6
      have fkx7 := X.frozen 7
      have ky0 := Y.cell 0 _ rfl
      have ky1 := Y.cell 1 _ rfl
      have ky2 := Y.cell 2 _ rfl
      have ky3 := Y.cell 3 _ rfl
      have ky4 := Y.cell 4 _ rfl
      have ky5 := Y.cell 5 _ rfl
      have ky6 := Y.cell 6 _ rfl
      have fky0 := Y.frozen 0
      have fky1 := Y.frozen 1
      have fky2 := Y.frozen 2
      have fky3 := Y.frozen 3
      have fky4 := Y.frozen 4
      have fky5 := Y.frozen 5
      have fky6 := Y.frozen 6
      have kr0 := R.cell 0 _ rfl
      have kr1 := R.cell 1 _ rfl
      have kr2 := R.cell 2 _ rfl
      have kr3 := R.cell 3 _ rfl
      have kr4 := R.cell 4 _ rfl
      have kr5 := R.cell 5 _ rfl
      have kr6 := R.cell 6 _ rfl
      have kr7 := R.cell 7 _ rfl
      have fkr0 := R.frozen 0
      have fkr1 := R.frozen 1
      have fkr2 := R.frozen 2
      have fkr3 := R.frozen 3
      have fkr4 := R.frozen 4
      have fkr5 := R.frozen 5
      have fkr6 := R.frozen 6
      have fkr7 := R.frozen 7
      go_wp2_with fail
      clear kx0 fkx0 kx1 fkx1 kx2 fkx2 kx3 fkx3 kx4 fkx4 kx5 fkx5 kx6 fkx6 kx7 fkx7 ky0 fky0 ky1 fky1 ky2 fky2 ky3 fky3 ky4 fky4 ky5 fky5 ky6 fky6 kr0 fkr0 kr1 fkr1 kr2 fkr2 kr3 fkr3 kr4 fkr4 kr5 fkr5 kr6 fkr6 kr7 fkr7
      have BZ := bel_put8 (B := (w.heap.size + 2)) B0 (by omega)
      refine bodyPost_ret (results_st2 Try.results28 _ _ (w.heap.size + 2) _ rfl rfl (R.put8 _ _ _ _ _ _ _ _)) rfl ⟨_, _, _, rfl, BZ _ _ _ _ _ _ _ _, _, fun V hV hSV => (HT1.out V ((A1.set8 (k := (w.heap.size + 2)) (by have := l1.out; omega) _ _ _ _ _ _ _ _).trans (hV.mono (by have := l1.out; omega))) hSV)⟩
    · rw [if_neg c2]
      have n2 : (a0 == 2) = false := beq_eq_false_iff_ne.2 c2
      by_cases c3 : a0 = 3
      · subst c3
        rw [if_pos rfl]
        have X := ((SBox.new w 28 #[.string ⟨s.toArray⟩, .string ⟨p.toArray⟩, .int .i64 r, .int .i64 f, .bool o, .slice ao no co, .slice ah nh ch, .slice ac nc cc]).alloc (.cells #[.int .i64 3, .int .i64 a1, .int .i64 e0, .int .i64 e1, .string ⟨e2.toArray⟩, .string ⟨e3.toArray⟩, .string ⟨a3.toArray⟩] 56)).alloc (.cells zS17 28)
        have Y := (sbox2 w (.cells #[.string ⟨s.toArray⟩, .string ⟨p.toArray⟩, .int .i64 r, .int .i64 f, .bool o, .slice ao no co, .slice ah nh ch, .slice ac nc cc] 28) 56 #[.int .i64 3, .int .i64 a1, .int .i64 e0, .int .i64 e1, .string ⟨e2.toArray⟩, .string ⟨e3.toArray⟩, .string ⟨a3.toArray⟩]).alloc (.cells zS17 28)
        have R := sbox3 w (.cells #[.string ⟨s.toArray⟩, .string ⟨p.toArray⟩, .int .i64 r, .int .i64 f, .bool o, .slice ao no co, .slice ah nh ch, .slice ac nc cc] 28) (.cells #[.int .i64 3, .int .i64 a1, .int .i64 e0, .int .i64 e1, .string ⟨e2.toArray⟩, .string ⟨e3.toArray⟩, .string ⟨a3.toArray⟩] 56) 28 zS17
        have B0 := bel3 w (.cells #[.string ⟨s.toArray⟩, .string ⟨p.toArray⟩, .int .i64 r, .int .i64 f, .bool o, .slice ao no co, .slice ah nh ch, .slice ac nc cc] 28) (.cells #[.int .i64 3, .int .i64 a1, .int .i64 e0, .int .i64 e1, .string ⟨e2.toArray⟩, .string ⟨e3.toArray⟩, .string ⟨a3.toArray⟩] 56) (.cells zS17 28)
        have kx0 := X.cell 0 _ rfl
        have kx1 := X.cell 1 _ rfl
        have kx2 := X.cell 2 _ rfl
        have kx3 := X.cell 3 _ rfl
        have kx4 := X.cell 4 _ rfl
        have kx5 := X.cell 5 _ rfl
        have kx6 := X.cell 6 _ rfl
        have kx7 := X.cell 7 _ rfl
        have fkx0 := X.frozen 0
        have fkx1 := X.frozen 1
        have fkx2 := X.frozen 2
        have fkx3 := X.frozen 3
        have fkx4 := X.frozen 4
        have fkx5 := X.frozen 5
        have fkx6 := X.frozen 6
        have fkx7 := X.frozen 7
        have ky0 := Y.cell 0 _ rfl
        have ky1 := Y.cell 1 _ rfl
        have ky2 := Y.cell 2 _ rfl
        have ky3 := Y.cell 3 _ rfl
        have ky4 := Y.cell 4 _ rfl
        have ky5 := Y.cell 5 _ rfl
        have ky6 := Y.cell 6 _ rfl
        have fky0 := Y.frozen 0
        have fky1 := Y.frozen 1
        have fky2 := Y.frozen 2
        have fky3 := Y.frozen 3
        have fky4 := Y.frozen 4
        have fky5 := Y.frozen 5
        have fky6 := Y.frozen 6
        have kr0 := R.cell 0 _ rfl
        have kr1 := R.cell 1 _ rfl
        have kr2 := R.cell 2 _ rfl
        have kr3 := R.cell 3 _ rfl
        have kr4 := R.cell 4 _ rfl
        have kr5 := R.cell 5 _ rfl
        have kr6 := R.cell 6 _ rfl
        have kr7 := R.cell 7 _ rfl
        have fkr0 := R.frozen 0
        have fkr1 := R.frozen 1
        have fkr2 := R.frozen 2
        have fkr3 := R.frozen 3
        have fkr4 := R.frozen 4
        have fkr5 := R.frozen 5
        have fkr6 := R.frozen 6
        have fkr7 := R.frozen 7
        go_enter Try.func28, Try.ntmps28
        go_wp2_with fail
        clear kx0 fkx0 kx1 fkx1 kx2 fkx2 kx3 fkx3 kx4 fkx4 kx5 fkx5 kx6 fkx6 kx7 fkx7 ky0 fky0 ky1 fky1 ky2 fky2 ky3 fky3 ky4 fky4 ky5 fky5 ky6 fky6 kr0 fkr0 kr1 fkr1 kr2 fkr2 kr3 fkr3 kr4 fkr4 kr5 fkr5 kr6 fkr6 kr7 fkr7
        have l1 := Lib.hid R.lt
        refine (pnote17_any s p r f o _ _ _ H' x a3 h3 hg hsp _ (HS.out.below B0)).mono ?_
        rintro e1 w2 ⟨uo1, uh1, uc1, rfl, bb, G1, hT1⟩
        replace X := X.below bb
        replace Y := Y.below bb
        replace R := R.below bb
        replace B0 := B0.trans (bb.mono B0.size)
        clear bb
        have A1 := agrOf hT1
        have HT1 := Lib.hid hT1
        clear hT1
        obtain ⟨bo1, mo1, dq1, bh1, mh1, dh1, bc1, mc1, dc1, rfl, rfl, rfl⟩ := (HT1.out _ A1 (HS.out.below B0)).slices
        simp only [stC]
        have kx0 := X.cell 0 _ rfl
        have kx1 := X.cell 1 _ rfl
        have kx2 := X.cell 2 _ rfl
        have kx3 := X.cell 3 _ rfl
        have kx4 := X.cell 4 _ rfl
        have kx5 := X.cell 5 _ rfl
        have kx6 := X.cell 6 _ rfl
        have kx7 := X.cell 7 _ rfl
        have fkx0 := X.frozen 0
        have fkx1 := X.frozen 1
        have fkx2 := X.frozen 2
        have fkx3 := X.frozen 3
        have fkx4 := X.frozen 4
        have fkx5 := X.frozen 5
        have fkx6 := X.frozen 6
        have fkx7 := X.frozen 7
        have ky0 := Y.cell 0 _ rfl
        have ky1 := Y.cell 1 _ rfl
        have ky2 := Y.cell 2 _ rfl
        have ky3 := Y.cell 3 _ rfl
        have ky4 := Y.cell 4 _ rfl
        have ky5 := Y.cell 5 _ rfl
        have ky6 := Y.cell 6 _ rfl
        have fky0 := Y.frozen 0
        have fky1 := Y.frozen 1
        have fky2 := Y.frozen 2
        have fky3 := Y.frozen 3
        have fky4 := Y.frozen 4
        have fky5 := Y.frozen 5
        have fky6 := Y.frozen 6
        have kr0 := R.cell 0 _ rfl
        have kr1 := R.cell 1 _ rfl
        have kr2 := R.cell 2 _ rfl
        have kr3 := R.cell 3 _ rfl
        have kr4 := R.cell 4 _ rfl
        have kr5 := R.cell 5 _ rfl
        have kr6 := R.cell 6 _ rfl
        have kr7 := R.cell 7 _ rfl
        have fkr0 := R.frozen 0
        have fkr1 := R.frozen 1
        have fkr2 := R.frozen 2
        have fkr3 := R.frozen 3
        have fkr4 := R.frozen 4
        have fkr5 := R.frozen 5
        have fkr6 := R.frozen 6
        have fkr7 := R.frozen 7
        go_wp2_with fail
        clear kx0 fkx0 kx1 fkx1 kx2 fkx2 kx3 fkx3 kx4 fkx4 kx5 fkx5 kx6 fkx6 kx7 fkx7 ky0 fky0 ky1 fky1 ky2 fky2 ky3 fky3 ky4 fky4 ky5 fky5 ky6 fky6 kr0 fkr0 kr1 fkr1 kr2 fkr2 kr3 fkr3 kr4 fkr4 kr5 fkr5 kr6 fkr6 kr7 fkr7
        have BZ := bel_put8 (B := (w.heap.size + 2)) B0 (by omega)
        refine bodyPost_ret (results_st2 Try.results28 _ _ (w.heap.size + 2) _ rfl rfl (R.put8 _ _ _ _ _ _ _ _)) rfl ⟨_, _, _, rfl, BZ _ _ _ _ _ _ _ _, _, fun V hV hSV => (HT1.out V ((A1.set8 (k := (w.heap.size + 2)) (by have := l1.out; omega) _ _ _ _ _ _ _ _).trans (hV.mono (by have := l1.out; omega))) hSV)⟩
      · rw [if_neg c3]
        have n3 : (a0 == 3) = false := beq_eq_false_iff_ne.2 c3
        by_cases c4 : a0 = 4
        · subst c4
          rw [if_pos rfl]
          obtain ⟨s', p', r', f', o', hW⟩ : ∃ a b c d g, armT (s, p, r, f, o) a1 = (a, b, c, d, g) := ⟨_, _, _, _, _, rfl⟩
          unfold armS
          simp only [hW]
          have X := ((SBox.new w 28 #[.string ⟨s.toArray⟩, .string ⟨p.toArray⟩, .int .i64 r, .int .i64 f, .bool o, .slice ao no co, .slice ah nh ch, .slice ac nc cc]).alloc (.cells #[.int .i64 4, .int .i64 a1, .int .i64 e0, .int .i64 e1, .string ⟨e2.toArray⟩, .string ⟨e3.toArray⟩, .string ⟨a3.toArray⟩] 56)).alloc (.cells zS17 28)
          have Y := (sbox2 w (.cells #[.string ⟨s.toArray⟩, .string ⟨p.toArray⟩, .int .i64 r, .int .i64 f, .bool o, .slice ao no co, .slice ah nh ch, .slice ac nc cc] 28) 56 #[.int .i64 4, .int .i64 a1, .int .i64 e0, .int .i64 e1, .string ⟨e2.toArray⟩, .string ⟨e3.toArray⟩, .string ⟨a3.toArray⟩]).alloc (.cells zS17 28)
          have R := sbox3 w (.cells #[.string ⟨s.toArray⟩, .string ⟨p.toArray⟩, .int .i64 r, .int .i64 f, .bool o, .slice ao no co, .slice ah nh ch, .slice ac nc cc] 28) (.cells #[.int .i64 4, .int .i64 a1, .int .i64 e0, .int .i64 e1, .string ⟨e2.toArray⟩, .string ⟨e3.toArray⟩, .string ⟨a3.toArray⟩] 56) 28 zS17
          have B0 := bel3 w (.cells #[.string ⟨s.toArray⟩, .string ⟨p.toArray⟩, .int .i64 r, .int .i64 f, .bool o, .slice ao no co, .slice ah nh ch, .slice ac nc cc] 28) (.cells #[.int .i64 4, .int .i64 a1, .int .i64 e0, .int .i64 e1, .string ⟨e2.toArray⟩, .string ⟨e3.toArray⟩, .string ⟨a3.toArray⟩] 56) (.cells zS17 28)
          have kx0 := X.cell 0 _ rfl
          have kx1 := X.cell 1 _ rfl
          have kx2 := X.cell 2 _ rfl
          have kx3 := X.cell 3 _ rfl
          have kx4 := X.cell 4 _ rfl
          have kx5 := X.cell 5 _ rfl
          have kx6 := X.cell 6 _ rfl
          have kx7 := X.cell 7 _ rfl
          have fkx0 := X.frozen 0
          have fkx1 := X.frozen 1
          have fkx2 := X.frozen 2
          have fkx3 := X.frozen 3
          have fkx4 := X.frozen 4
          have fkx5 := X.frozen 5
          have fkx6 := X.frozen 6
          have fkx7 := X.frozen 7
          have ky0 := Y.cell 0 _ rfl
          have ky1 := Y.cell 1 _ rfl
          have ky2 := Y.cell 2 _ rfl
          have ky3 := Y.cell 3 _ rfl
          have ky4 := Y.cell 4 _ rfl
          have ky5 := Y.cell 5 _ rfl
          have ky6 := Y.cell 6 _ rfl
          have fky0 := Y.frozen 0
          have fky1 := Y.frozen 1
          have fky2 := Y.frozen 2
          have fky3 := Y.frozen 3
          have fky4 := Y.frozen 4
          have fky5 := Y.frozen 5
          have fky6 := Y.frozen 6
          have kr0 := R.cell 0 _ rfl
          have kr1 := R.cell 1 _ rfl
          have kr2 := R.cell 2 _ rfl
          have kr3 := R.cell 3 _ rfl
          have kr4 := R.cell 4 _ rfl
          have kr5 := R.cell 5 _ rfl
          have kr6 := R.cell 6 _ rfl
          have kr7 := R.cell 7 _ rfl
          have fkr0 := R.frozen 0
          have fkr1 := R.frozen 1
          have fkr2 := R.frozen 2
          have fkr3 := R.frozen 3
          have fkr4 := R.frozen 4
          have fkr5 := R.frozen 5
          have fkr6 := R.frozen 6
          have fkr7 := R.frozen 7
          go_enter Try.func28, Try.ntmps28
          go_wp2_with fail
          refine (parm17_any s p r f o _ _ _ H' x a1 _ (HS.out.below B0)).mono ?_
          rintro e1 w2 ⟨rfl, bb⟩
          clear kx0 fkx0 kx1 fkx1 kx2 fkx2 kx3 fkx3 kx4 fkx4 kx5 fkx5 kx6 fkx6 kx7 fkx7 ky0 fky0 ky1 fky1 ky2 fky2 ky3 fky3 ky4 fky4 ky5 fky5 ky6 fky6 kr0 fkr0 kr1 fkr1 kr2 fkr2 kr3 fkr3 kr4 fkr4 kr5 fkr5 kr6 fkr6 kr7 fkr7
          replace X := X.below bb
          replace Y := Y.below bb
          replace R := R.below bb
          replace B0 := B0.trans (bb.mono B0.size)
          clear bb
          rw [hW]
          simp only [stC]
          have kx0 := X.cell 0 _ rfl
          have kx1 := X.cell 1 _ rfl
          have kx2 := X.cell 2 _ rfl
          have kx3 := X.cell 3 _ rfl
          have kx4 := X.cell 4 _ rfl
          have kx5 := X.cell 5 _ rfl
          have kx6 := X.cell 6 _ rfl
          have kx7 := X.cell 7 _ rfl
          have fkx0 := X.frozen 0
          have fkx1 := X.frozen 1
          have fkx2 := X.frozen 2
          have fkx3 := X.frozen 3
          have fkx4 := X.frozen 4
          have fkx5 := X.frozen 5
          have fkx6 := X.frozen 6
          have fkx7 := X.frozen 7
          have ky0 := Y.cell 0 _ rfl
          have ky1 := Y.cell 1 _ rfl
          have ky2 := Y.cell 2 _ rfl
          have ky3 := Y.cell 3 _ rfl
          have ky4 := Y.cell 4 _ rfl
          have ky5 := Y.cell 5 _ rfl
          have ky6 := Y.cell 6 _ rfl
          have fky0 := Y.frozen 0
          have fky1 := Y.frozen 1
          have fky2 := Y.frozen 2
          have fky3 := Y.frozen 3
          have fky4 := Y.frozen 4
          have fky5 := Y.frozen 5
          have fky6 := Y.frozen 6
          have kr0 := R.cell 0 _ rfl
          have kr1 := R.cell 1 _ rfl
          have kr2 := R.cell 2 _ rfl
          have kr3 := R.cell 3 _ rfl
          have kr4 := R.cell 4 _ rfl
          have kr5 := R.cell 5 _ rfl
          have kr6 := R.cell 6 _ rfl
          have kr7 := R.cell 7 _ rfl
          have fkr0 := R.frozen 0
          have fkr1 := R.frozen 1
          have fkr2 := R.frozen 2
          have fkr3 := R.frozen 3
          have fkr4 := R.frozen 4
          have fkr5 := R.frozen 5
          have fkr6 := R.frozen 6
          have fkr7 := R.frozen 7
          go_wp2_with fail
          clear kx0 fkx0 kx1 fkx1 kx2 fkx2 kx3 fkx3 kx4 fkx4 kx5 fkx5 kx6 fkx6 kx7 fkx7 ky0 fky0 ky1 fky1 ky2 fky2 ky3 fky3 ky4 fky4 ky5 fky5 ky6 fky6 kr0 fkr0 kr1 fkr1 kr2 fkr2 kr3 fkr3 kr4 fkr4 kr5 fkr5 kr6 fkr6 kr7 fkr7
          have BZ := bel_put8 (B := (w.heap.size + 2)) B0 (by omega)
          refine bodyPost_ret (results_st2 Try.results28 _ _ (w.heap.size + 2) _ rfl rfl (R.put8 _ _ _ _ _ _ _ _)) rfl ⟨_, _, _, rfl, BZ _ _ _ _ _ _ _ _, _, fun V hV hSV => hSV⟩
        · rw [if_neg c4]
          have n4 : (a0 == 4) = false := beq_eq_false_iff_ne.2 c4
          simp only
          clear c1 c2 c3 c4
          have X := ((SBox.new w 28 #[.string ⟨s.toArray⟩, .string ⟨p.toArray⟩, .int .i64 r, .int .i64 f, .bool o, .slice ao no co, .slice ah nh ch, .slice ac nc cc]).alloc (.cells #[.int .i64 a0, .int .i64 a1, .int .i64 e0, .int .i64 e1, .string ⟨e2.toArray⟩, .string ⟨e3.toArray⟩, .string ⟨a3.toArray⟩] 56)).alloc (.cells zS17 28)
          have Y := (sbox2 w (.cells #[.string ⟨s.toArray⟩, .string ⟨p.toArray⟩, .int .i64 r, .int .i64 f, .bool o, .slice ao no co, .slice ah nh ch, .slice ac nc cc] 28) 56 #[.int .i64 a0, .int .i64 a1, .int .i64 e0, .int .i64 e1, .string ⟨e2.toArray⟩, .string ⟨e3.toArray⟩, .string ⟨a3.toArray⟩]).alloc (.cells zS17 28)
          have R := sbox3 w (.cells #[.string ⟨s.toArray⟩, .string ⟨p.toArray⟩, .int .i64 r, .int .i64 f, .bool o, .slice ao no co, .slice ah nh ch, .slice ac nc cc] 28) (.cells #[.int .i64 a0, .int .i64 a1, .int .i64 e0, .int .i64 e1, .string ⟨e2.toArray⟩, .string ⟨e3.toArray⟩, .string ⟨a3.toArray⟩] 56) 28 zS17
          have B0 := bel3 w (.cells #[.string ⟨s.toArray⟩, .string ⟨p.toArray⟩, .int .i64 r, .int .i64 f, .bool o, .slice ao no co, .slice ah nh ch, .slice ac nc cc] 28) (.cells #[.int .i64 a0, .int .i64 a1, .int .i64 e0, .int .i64 e1, .string ⟨e2.toArray⟩, .string ⟨e3.toArray⟩, .string ⟨a3.toArray⟩] 56) (.cells zS17 28)
          have kx0 := X.cell 0 _ rfl
          have kx1 := X.cell 1 _ rfl
          have kx2 := X.cell 2 _ rfl
          have kx3 := X.cell 3 _ rfl
          have kx4 := X.cell 4 _ rfl
          have kx5 := X.cell 5 _ rfl
          have kx6 := X.cell 6 _ rfl
          have kx7 := X.cell 7 _ rfl
          have fkx0 := X.frozen 0
          have fkx1 := X.frozen 1
          have fkx2 := X.frozen 2
          have fkx3 := X.frozen 3
          have fkx4 := X.frozen 4
          have fkx5 := X.frozen 5
          have fkx6 := X.frozen 6
          have fkx7 := X.frozen 7
          have ky0 := Y.cell 0 _ rfl
          have ky1 := Y.cell 1 _ rfl
          have ky2 := Y.cell 2 _ rfl
          have ky3 := Y.cell 3 _ rfl
          have ky4 := Y.cell 4 _ rfl
          have ky5 := Y.cell 5 _ rfl
          have ky6 := Y.cell 6 _ rfl
          have fky0 := Y.frozen 0
          have fky1 := Y.frozen 1
          have fky2 := Y.frozen 2
          have fky3 := Y.frozen 3
          have fky4 := Y.frozen 4
          have fky5 := Y.frozen 5
          have fky6 := Y.frozen 6
          have kr0 := R.cell 0 _ rfl
          have kr1 := R.cell 1 _ rfl
          have kr2 := R.cell 2 _ rfl
          have kr3 := R.cell 3 _ rfl
          have kr4 := R.cell 4 _ rfl
          have kr5 := R.cell 5 _ rfl
          have kr6 := R.cell 6 _ rfl
          have kr7 := R.cell 7 _ rfl
          have fkr0 := R.frozen 0
          have fkr1 := R.frozen 1
          have fkr2 := R.frozen 2
          have fkr3 := R.frozen 3
          have fkr4 := R.frozen 4
          have fkr5 := R.frozen 5
          have fkr6 := R.frozen 6
          have fkr7 := R.frozen 7
          go_enter Try.func28, Try.ntmps28
          go_wp2_with fail
          exact bodyPost_ret (results_st2 Try.results28 _ _ (w.heap.size + 2) _ rfl rfl (sbox3 _ _ _ _ _)) rfl ⟨_, _, _, rfl, bel3 w _ _ _, _, fun V _ h => h⟩
end Go.Proofs.Ytngllioidfffdaa
