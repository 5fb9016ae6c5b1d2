/-
  What the laws of stores do: one act, without a tape's bounds.
-/
import Derived.Test.YtngllioidfffdaaZW17Does
import Derived.Test.YtngllioidfffdaaZLasts17
namespace Go.Proofs.Ytngllioidfffdaa
set_option maxRecDepth 100000
open Go.RowKit
set_option linter.unusedVariables false
set_option linter.unusedSimpArgs false
attribute [local go_sem] ba_size
def PlRes (w : World) (vo vh vc : Value) (H' : List Value) (x y : Sd) (e : Ending) (w' : World) : Prop :=
  ∃ T uo uh uc, e = .returned (.agg (stC T uo uh uc)) ∧ Below w.heap.size w w' ∧ ∃ G', ∀ V, Agr w.heap.size w' V → StIn V vo vh vc H' x → StIn V uo uh uc G' y
theorem plG : goodW plT := ⟨by decide, by decide, by decide, by decide⟩
set_option maxHeartbeats 4000000 in
theorem plain17_any (s p : List UInt8) (r f : Int) (o : Bool) (vo vh vc : Value) (H' : List Value) (x : Sd) (a0 a1 e0 e1 : Int) (e2 e3 a3 : List UInt8) (h3 : a3.length ≤ 562949953421312) (w : World) (hS : StIn w vo vh vc H' x) :
    Calls Try.prog 29 #[.agg (stC (s, p, r, f, o) vo vh vc), .agg #[.int .i64 a0, .int .i64 a1, .int .i64 e0, .int .i64 e1, .string ⟨e2.toArray⟩, .string ⟨e3.toArray⟩, .string ⟨a3.toArray⟩]] w fun e w' => PlRes w vo vh vc H' x (plS ((s, p, r, f, o), x) (a0, a1, (e0, e1, e2, e3), a3)) e w' := by
  obtain ⟨ao, no, co, ah, nh, ch, ac, nc, cc, rfl, rfl, rfl⟩ := hS.slices
  obtain ⟨⟨n1, _, _, _⟩, ⟨n2, _, _, _⟩, ⟨n3, _, _, _⟩⟩ := hS.nums
  have HN : Hid (x.1.length = no ∧ x.2.1.length = nh ∧ x.2.2.length = nc) := ⟨n1, n2, n3⟩
  have HS := Lib.hid hS
  clear hS n1 n2 n3
  unfold PlRes plS
  simp only
  obtain ⟨sq, pq, rq, fq, oq, yq, Eq, hact⟩ : ∃ a b c d g y E, actS (plT, x) (a0, a1, (e0, e1, e2, e3), a3) = (((a, b, c, d, g), y), E) := ⟨_, _, _, _, _, _, _, rfl⟩
  rw [hact]
  simp only
  unfold plT at hact
  have HA := Lib.hid hact
  clear hact
  unfold stC
  simp only
  have X := ((SBox.new w 28 #[.string ⟨s.toArray⟩, .string ⟨p.toArray⟩, .int .i64 r, .int .i64 f, .bool o, .slice ao no co, .slice ah nh ch, .slice ac nc cc]).alloc (.cells #[.int .i64 a0, .int .i64 a1, .int .i64 e0, .int .i64 e1, .string ⟨e2.toArray⟩, .string ⟨e3.toArray⟩, .string ⟨a3.toArray⟩] 56)).alloc (.cells zS17 28)
  have Y := (sbox2 w (.cells #[.string ⟨s.toArray⟩, .string ⟨p.toArray⟩, .int .i64 r, .int .i64 f, .bool o, .slice ao no co, .slice ah nh ch, .slice ac nc cc] 28) 56 #[.int .i64 a0, .int .i64 a1, .int .i64 e0, .int .i64 e1, .string ⟨e2.toArray⟩, .string ⟨e3.toArray⟩, .string ⟨a3.toArray⟩]).alloc (.cells zS17 28)
  have R := sbox3 w (.cells #[.string ⟨s.toArray⟩, .string ⟨p.toArray⟩, .int .i64 r, .int .i64 f, .bool o, .slice ao no co, .slice ah nh ch, .slice ac nc cc] 28) (.cells #[.int .i64 a0, .int .i64 a1, .int .i64 e0, .int .i64 e1, .string ⟨e2.toArray⟩, .string ⟨e3.toArray⟩, .string ⟨a3.toArray⟩] 56) 28 zS17
  have B0 := bel3 w (.cells #[.string ⟨s.toArray⟩, .string ⟨p.toArray⟩, .int .i64 r, .int .i64 f, .bool o, .slice ao no co, .slice ah nh ch, .slice ac nc cc] 28) (.cells #[.int .i64 a0, .int .i64 a1, .int .i64 e0, .int .i64 e1, .string ⟨e2.toArray⟩, .string ⟨e3.toArray⟩, .string ⟨a3.toArray⟩] 56) (.cells zS17 28)
  have kx0 := X.cell 0 _ rfl
  have kx1 := X.cell 1 _ rfl
  have kx2 := X.cell 2 _ rfl
  have kx3 := X.cell 3 _ rfl
  have kx4 := X.cell 4 _ rfl
  have kx5 := X.cell 5 _ rfl
  have kx6 := X.cell 6 _ rfl
  have kx7 := X.cell 7 _ rfl
  have fkx0 := X.frozen 0
  have fkx1 := X.frozen 1
  have fkx2 := X.frozen 2
  have fkx3 := X.frozen 3
  have fkx4 := X.frozen 4
  have fkx5 := X.frozen 5
  have fkx6 := X.frozen 6
  have fkx7 := X.frozen 7
  have ky0 := Y.cell 0 _ rfl
  have ky1 := Y.cell 1 _ rfl
  have ky2 := Y.cell 2 _ rfl
  have ky3 := Y.cell 3 _ rfl
  have ky4 := Y.cell 4 _ rfl
  have ky5 := Y.cell 5 _ rfl
  have ky6 := Y.cell 6 _ rfl
  have fky0 := Y.frozen 0
  have fky1 := Y.frozen 1
  have fky2 := Y.frozen 2
  have fky3 := Y.frozen 3
  have fky4 := Y.frozen 4
  have fky5 := Y.frozen 5
  have fky6 := Y.frozen 6
  have kr0 := R.cell 0 _ rfl
  have kr1 := R.cell 1 _ rfl
  have kr2 := R.cell 2 _ rfl
  have kr3 := R.cell 3 _ rfl
  have kr4 := R.cell 4 _ rfl
  have kr5 := R.cell 5 _ rfl
  have kr6 := R.cell 6 _ rfl
  have kr7 := R.cell 7 _ rfl
  have fkr0 := R.frozen 0
  have fkr1 := R.frozen 1
  have fkr2 := R.frozen 2
  have fkr3 := R.frozen 3
  have fkr4 := R.frozen 4
  have fkr5 := R.frozen 5
  have fkr6 := R.frozen 6
  have fkr7 := R.frozen 7
  go_enter Try.func29, Try.ntmps29
  go_wp2_with fail
  clear kx0 fkx0 kx1 fkx1 kx2 fkx2 kx3 fkx3 kx4 fkx4 kx5 fkx5 kx6 fkx6 kx7 fkx7 ky0 fky0 ky1 fky1 ky2 fky2 ky3 fky3 ky4 fky4 ky5 fky5 ky6 fky6 kr0 fkr0 kr1 fkr1 kr2 fkr2 kr3 fkr3 kr4 fkr4 kr5 fkr5 kr6 fkr6 kr7 fkr7
  clear X Y R B0
  have X := ((SBox.new w 28 #[.string ⟨#[]⟩, .string ⟨#[]⟩, .int .i64 1073741824, .int .i64 (-1), .bool false, .slice ao no co, .slice ah nh ch, .slice ac nc cc]).alloc (.cells #[.int .i64 a0, .int .i64 a1, .int .i64 e0, .int .i64 e1, .string ⟨e2.toArray⟩, .string ⟨e3.toArray⟩, .string ⟨a3.toArray⟩] 56)).alloc (.cells zS17 28)
  have Y := (sbox2 w (.cells #[.string ⟨#[]⟩, .string ⟨#[]⟩, .int .i64 1073741824, .int .i64 (-1), .bool false, .slice ao no co, .slice ah nh ch, .slice ac nc cc] 28) 56 #[.int .i64 a0, .int .i64 a1, .int .i64 e0, .int .i64 e1, .string ⟨e2.toArray⟩, .string ⟨e3.toArray⟩, .string ⟨a3.toArray⟩]).alloc (.cells zS17 28)
  have R := sbox3 w (.cells #[.string ⟨#[]⟩, .string ⟨#[]⟩, .int .i64 1073741824, .int .i64 (-1), .bool false, .slice ao no co, .slice ah nh ch, .slice ac nc cc] 28) (.cells #[.int .i64 a0, .int .i64 a1, .int .i64 e0, .int .i64 e1, .string ⟨e2.toArray⟩, .string ⟨e3.toArray⟩, .string ⟨a3.toArray⟩] 56) 28 zS17
  have B0 := bel3 w (.cells #[.string ⟨#[]⟩, .string ⟨#[]⟩, .int .i64 1073741824, .int .i64 (-1), .bool false, .slice ao no co, .slice ah nh ch, .slice ac nc cc] 28) (.cells #[.int .i64 a0, .int .i64 a1, .int .i64 e0, .int .i64 e1, .string ⟨e2.toArray⟩, .string ⟨e3.toArray⟩, .string ⟨a3.toArray⟩] 56) (.cells zS17 28)
  have D := does17_any [] [] 1073741824 (-1) false (.slice ao no co) (.slice ah nh ch) (.slice ac nc cc) H' x a0 a1 e0 e1 e2 e3 a3 h3 plG (by decide) _ (HS.out.below B0)
  rw [HA.out] at D
  unfold StoRes at D
  simp only [stC] at D
  have l1 := Lib.hid R.lt
  refine D.mono ?_
  rintro e1 w2 ⟨uo1, uh1, uc1, rfl, bb, G1, hT1⟩
  replace X := X.below bb
  replace Y := Y.below bb
  replace R := R.below bb
  replace B0 := B0.trans (bb.mono B0.size)
  clear bb
  have A1 := agrOf hT1
  have HT1 := Lib.hid hT1
  clear hT1
  obtain ⟨bo1, mo1, dq1, bh1, mh1, dh1, bc1, mc1, dc1, rfl, rfl, rfl⟩ := (HT1.out _ A1 (HS.out.below B0)).slices
  clear D
  replace X := X.alloc (.cells #[.string ⟨sq.toArray⟩, .string ⟨pq.toArray⟩, .int .i64 rq, .int .i64 fq, .bool oq, .slice bo1 mo1 dq1, .slice bh1 mh1 dh1, .slice bc1 mc1 dc1] 28)
  replace R := R.alloc (.cells #[.string ⟨sq.toArray⟩, .string ⟨pq.toArray⟩, .int .i64 rq, .int .i64 fq, .bool oq, .slice bo1 mo1 dq1, .slice bh1 mh1 dh1, .slice bc1 mc1 dc1] 28)
  replace B0 := B0.alloc B0.size (.cells #[.string ⟨sq.toArray⟩, .string ⟨pq.toArray⟩, .int .i64 rq, .int .i64 fq, .bool oq, .slice bo1 mo1 dq1, .slice bh1 mh1 dh1, .slice bc1 mc1 dc1] 28)
  replace A1 := A1.trans (Agr.below ((Below.refl _ _).alloc (Nat.le_refl _) (.cells #[.string ⟨sq.toArray⟩, .string ⟨pq.toArray⟩, .int .i64 rq, .int .i64 fq, .bool oq, .slice bo1 mo1 dq1, .slice bh1 mh1 dh1, .slice bc1 mc1 dc1] 28)))
  have kr0 := R.cell 0 _ rfl
  have kr1 := R.cell 1 _ rfl
  have kr2 := R.cell 2 _ rfl
  have kr3 := R.cell 3 _ rfl
  have kr4 := R.cell 4 _ rfl
  have kr5 := R.cell 5 _ rfl
  have kr6 := R.cell 6 _ rfl
  have kr7 := R.cell 7 _ rfl
  have fkr0 := R.frozen 0
  have fkr1 := R.frozen 1
  have fkr2 := R.frozen 2
  have fkr3 := R.frozen 3
  have fkr4 := R.frozen 4
  have fkr5 := R.frozen 5
  have fkr6 := R.frozen 6
  have fkr7 := R.frozen 7
  go_wp2_with fail
  clear kr0 fkr0 kr1 fkr1 kr2 fkr2 kr3 fkr3 kr4 fkr4 kr5 fkr5 kr6 fkr6 kr7 fkr7
  have BZ := bel_put8 (B := w.heap.size + 2) B0 (by omega)
  refine bodyPost_ret (results_st Try.results29 _ _ (w.heap.size + 2) _ rfl rfl (R.put8 _ _ _ _ _ _ _ _)) rfl ⟨(sq, pq, rq, fq, oq), _, _, _, rfl, BZ _ _ _ _ _ _ _ _, _, fun V hV hSV => HT1.out V ((A1.set8 (k := w.heap.size + 2) (by have := l1.out; omega) _ _ _ _ _ _ _ _).trans (hV.mono (by have := l1.out; omega))) hSV⟩
end Go.Proofs.Ytngllioidfffdaa
