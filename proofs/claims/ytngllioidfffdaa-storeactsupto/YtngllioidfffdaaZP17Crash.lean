/-
  What store.Crash answers.
-/
import Derived.Test.YtngllioidfffdaaZP17Open
import Derived.Test.YtngllioidfffdaaZP16Crash
import Derived.Test.YtngllioidfffdaaGU
namespace Go.Proofs.Ytngllioidfffdaa
set_option maxRecDepth 100000
open Go.RowKit
set_option linter.unusedVariables false
attribute [local go_sem] ba_size
set_option maxHeartbeats 4000000 in
theorem pcrash17_any (s p : List UInt8) (r f : Int) (o : Bool) (vo vh vc : Value) (H' : List Value) (x : Sd) (n : Int) (hs : s.length + p.length ≤ 8796093021952) (w : World) (hS : StIn w vo vh vc H' x) :
    Calls Try.prog 17 #[.agg (stC (s, p, r, f, o) vo vh vc), .int .i64 n] w fun e w' => OpenRes w (crashS ((s, p, r, f, o), x) n) e w' := by
  unfold crashS
  simp only
  have hk := kept_le (s, p, r, f, o) n
  have C0 := fun W => pcrash16_any s p r f o n hs W
  have hc1 : (crashT (s, p, r, f, o) n).1 = keptT (s, p, r, f, o) n := rfl
  have hc2 : (crashT (s, p, r, f, o) n).2.1 = [] := rfl
  obtain ⟨s', p', r', f', o', hW⟩ : ∃ a b c d g, crashT (s, p, r, f, o) n = (a, b, c, d, g) := ⟨_, _, _, _, _, rfl⟩
  rw [hW] at hc1 hc2 C0 ⊢
  simp only at hc1 hc2 hk
  have C1 := fun W => popen17_any s' p' r' f' o' (by rw [hc1, hc2]; simp only [List.length_nil]; omega) W
  clear hc1 hc2 hk hW hs
  obtain ⟨ao, no, co, ah, nh, ch, ac, nc, cc, rfl, rfl, rfl⟩ := hS.slices
  obtain ⟨⟨n1, _, _, _⟩, ⟨n2, _, _, _⟩, ⟨n3, _, _, _⟩⟩ := hS.nums
  have HN : Hid (x.1.length = no ∧ x.2.1.length = nh ∧ x.2.2.length = nc) := ⟨n1, n2, n3⟩
  have HS := Lib.hid hS
  clear hS n1 n2 n3
  have X := (SBox.new w 28 #[.string ⟨s.toArray⟩, .string ⟨p.toArray⟩, .int .i64 r, .int .i64 f, .bool o, .slice ao no co, .slice ah nh ch, .slice ac nc cc]).alloc (.cells zS17 28)
  have R := sbox2 w (.cells #[.string ⟨s.toArray⟩, .string ⟨p.toArray⟩, .int .i64 r, .int .i64 f, .bool o, .slice ao no co, .slice ah nh ch, .slice ac nc cc] 28) 28 zS17
  have B0 := bel2 w (.cells #[.string ⟨s.toArray⟩, .string ⟨p.toArray⟩, .int .i64 r, .int .i64 f, .bool o, .slice ao no co, .slice ah nh ch, .slice ac nc cc] 28) (.cells zS17 28)
  unfold OpenRes StoRes tpV tpC at *
  unfold stC at *
  simp only at C0 C1 ⊢
  clear HN
  have kx0 := X.cell 0 _ rfl
  have kx1 := X.cell 1 _ rfl
  have kx2 := X.cell 2 _ rfl
  have kx3 := X.cell 3 _ rfl
  have kx4 := X.cell 4 _ rfl
  have kx5 := X.cell 5 _ rfl
  have kx6 := X.cell 6 _ rfl
  have kx7 := X.cell 7 _ rfl
  have fkx0 := X.frozen 0
  have fkx1 := X.frozen 1
  have fkx2 := X.frozen 2
  have fkx3 := X.frozen 3
  have fkx4 := X.frozen 4
  have fkx5 := X.frozen 5
  have fkx6 := X.frozen 6
  have fkx7 := X.frozen 7
  have kr0 := R.cell 0 _ rfl
  have kr1 := R.cell 1 _ rfl
  have kr2 := R.cell 2 _ rfl
  have kr3 := R.cell 3 _ rfl
  have kr4 := R.cell 4 _ rfl
  have kr5 := R.cell 5 _ rfl
  have kr6 := R.cell 6 _ rfl
  have kr7 := R.cell 7 _ rfl
  have fkr0 := R.frozen 0
  have fkr1 := R.frozen 1
  have fkr2 := R.frozen 2
  have fkr3 := R.frozen 3
  have fkr4 := R.frozen 4
  have fkr5 := R.frozen 5
  have fkr6 := R.frozen 6
  have fkr7 := R.frozen 7
  go_enter Try.func17, Try.ntmps17
  go_wp2_with fail
  refine (C0 _).mono ?_
  rintro e1 w1 ⟨rfl, bb⟩
  clear kx0 fkx0 kx1 fkx1 kx2 fkx2 kx3 fkx3 kx4 fkx4 kx5 fkx5 kx6 fkx6 kx7 fkx7 kr0 fkr0 kr1 fkr1 kr2 fkr2 kr3 fkr3 kr4 fkr4 kr5 fkr5 kr6 fkr6 kr7 fkr7
  replace R := R.below bb
  replace B0 := B0.trans (bb.mono B0.size)
  clear bb X
  have kr0 := R.cell 0 _ rfl
  have kr1 := R.cell 1 _ rfl
  have kr2 := R.cell 2 _ rfl
  have kr3 := R.cell 3 _ rfl
  have kr4 := R.cell 4 _ rfl
  have kr5 := R.cell 5 _ rfl
  have kr6 := R.cell 6 _ rfl
  have kr7 := R.cell 7 _ rfl
  have fkr0 := R.frozen 0
  have fkr1 := R.frozen 1
  have fkr2 := R.frozen 2
  have fkr3 := R.frozen 3
  have fkr4 := R.frozen 4
  have fkr5 := R.frozen 5
  have fkr6 := R.frozen 6
  have fkr7 := R.frozen 7
  go_wp2_with fail
  refine (C1 _).mono ?_
  rintro e1 w2 ⟨uo, uh, uc, rfl, bb, G, hT⟩
  clear kr0 fkr0 kr1 fkr1 kr2 fkr2 kr3 fkr3 kr4 fkr4 kr5 fkr5 kr6 fkr6 kr7 fkr7
  have lR := Lib.hid R.lt
  replace R := R.below bb
  replace B0 := B0.trans (bb.mono B0.size)
  have A1 := agrOf hT
  replace hT := Lib.hid hT
  obtain ⟨bo, mo, dq, bh, mh, dh, bc, mc, dc, rfl, rfl, rfl⟩ := (hT.out _ A1 (StIn.zero _)).slices
  clear bb
  have kr0 := R.cell 0 _ rfl
  have kr1 := R.cell 1 _ rfl
  have kr2 := R.cell 2 _ rfl
  have kr3 := R.cell 3 _ rfl
  have kr4 := R.cell 4 _ rfl
  have kr5 := R.cell 5 _ rfl
  have kr6 := R.cell 6 _ rfl
  have kr7 := R.cell 7 _ rfl
  have fkr0 := R.frozen 0
  have fkr1 := R.frozen 1
  have fkr2 := R.frozen 2
  have fkr3 := R.frozen 3
  have fkr4 := R.frozen 4
  have fkr5 := R.frozen 5
  have fkr6 := R.frozen 6
  have fkr7 := R.frozen 7
  go_wp2_with fail
  clear kr0 fkr0 kr1 fkr1 kr2 fkr2 kr3 fkr3 kr4 fkr4 kr5 fkr5 kr6 fkr6 kr7 fkr7
  have BZ := bel_put8 (B := w.heap.size + 1) B0 (by omega)
  exact bodyPost_ret (results_st2 Try.results17 _ _ (w.heap.size + 1) _ rfl rfl (R.put8 _ _ _ _ _ _ _ _)) rfl ⟨_, _, _, rfl, BZ _ _ _ _ _ _ _ _, G, fun V hV hSV => hT.out V ((A1.set8 (k := w.heap.size + 1) (by have := lR.out; omega) _ _ _ _ _ _ _ _).trans (hV.mono (by have := lR.out; omega))) hSV⟩
end Go.Proofs.Ytngllioidfffdaa
