/-
  What store.written and store.synced answer.
-/
import Derived.Test.YtngllioidfffdaaZP17Done
import Derived.Test.YtngllioidfffdaaGU
namespace Go.Proofs.Ytngllioidfffdaa
set_option maxRecDepth 100000
open Go.RowKit
set_option linter.unusedVariables false
attribute [local go_sem] ba_size
theorem pw17 {s p s' p' rec : List UInt8} {r f r' f' : Int} {o o' : Bool} {e : Int} (hg : goodW (s, p, r, f, o)) (hl : rec.length ≤ 1125899906842624) (h : writeT (s, p, r, f, o) rec = ((s', p', r', f', o'), e)) (w : World) :
    Calls Try.prog 56 #[tA s p r f o, .string ⟨rec.toArray⟩] w fun x w' => x = .returned (.tuple #[tA s' p' r' f' o', .int .i64 e]) ∧ Below w.heap.size w w' := by
  have := pwrite16_any s p rec r f o hg (by omega) w; rw [h] at this; exact this
theorem ps17 {s p s' p' : List UInt8} {r f r' f' : Int} {o o' : Bool} {e : Int} (hg : s.length ≤ 1125899906842624 ∧ p.length ≤ 1125899906842624) (h : syncT (s, p, r, f, o) = ((s', p', r', f', o'), e)) (w : World) :
    Calls Try.prog 60 #[tA s p r f o] w fun x w' => x = .returned (.tuple #[tA s' p' r' f' o', .int .i64 e]) ∧ Below w.heap.size w w' := by
  have := psync16_any s p r f o hg.1 hg.2 w; rw [h] at this; exact this
set_option maxHeartbeats 4000000 in
theorem pwritten17_any (s p : List UInt8) (r f : Int) (o : Bool) (vo vh vc : Value) (H' : List Value) (x : Sd) (rec : List UInt8) (hg : goodW (s, p, r, f, o)) (hl : rec.length ≤ 1125899906842624) (w : World) (hS : StIn w vo vh vc H' x) :
    Calls Try.prog 31 #[.agg (stC (s, p, r, f, o) vo vh vc), .string ⟨rec.toArray⟩] w fun e w' => StoRes w vo vh vc H' x (wrS ((s, p, r, f, o), x) rec) e w' := by
  obtain ⟨ao, no, co, ah, nh, ch, ac, nc, cc, rfl, rfl, rfl⟩ := hS.slices
  have HS := Lib.hid hS
  clear hS
  have X := (SBox.new w 28 #[.string ⟨s.toArray⟩, .string ⟨p.toArray⟩, .int .i64 r, .int .i64 f, .bool o, .slice ao no co, .slice ah nh ch, .slice ac nc cc]).alloc (.cells zS17 28)
  have R := sbox2 w (.cells #[.string ⟨s.toArray⟩, .string ⟨p.toArray⟩, .int .i64 r, .int .i64 f, .bool o, .slice ao no co, .slice ah nh ch, .slice ac nc cc] 28) 28 zS17
  have B0 := bel2 w (.cells #[.string ⟨s.toArray⟩, .string ⟨p.toArray⟩, .int .i64 r, .int .i64 f, .bool o, .slice ao no co, .slice ah nh ch, .slice ac nc cc] 28) (.cells zS17 28)
  obtain ⟨s', p', r', f', o', e, hW⟩ : ∃ a b c d g e, writeT (s, p, r, f, o) rec = ((a, b, c, d, g), e) := ⟨_, _, _, _, _, _, rfl⟩
  unfold StoRes stC
  by_cases he : e = 0
  · have hy : wrS ((s, p, r, f, o), x) rec = (((s', p', r', f', o'), (doesR x rec).2), e) := by unfold wrS; simp only [hW]; rw [if_pos he, he]
    rw [hy]
    simp only
    have he1 : (e == 0) = true := by rw [he]; rfl
    clear he hy
    have kx0 := X.cell 0 _ rfl
    have kx1 := X.cell 1 _ rfl
    have kx2 := X.cell 2 _ rfl
    have kx3 := X.cell 3 _ rfl
    have kx4 := X.cell 4 _ rfl
    have kx5 := X.cell 5 _ rfl
    have kx6 := X.cell 6 _ rfl
    have kx7 := X.cell 7 _ rfl
    have fkx0 := X.frozen 0
    have fkx1 := X.frozen 1
    have fkx2 := X.frozen 2
    have fkx3 := X.frozen 3
    have fkx4 := X.frozen 4
    have fkx5 := X.frozen 5
    have fkx6 := X.frozen 6
    have fkx7 := X.frozen 7
    have kz0 := R.cell 0 _ rfl
    have kz1 := R.cell 1 _ rfl
    have kz2 := R.cell 2 _ rfl
    have kz3 := R.cell 3 _ rfl
    have kz4 := R.cell 4 _ rfl
    have kz5 := R.cell 5 _ rfl
    have kz6 := R.cell 6 _ rfl
    have kz7 := R.cell 7 _ rfl
    have fkz0 := R.frozen 0
    have fkz1 := R.frozen 1
    have fkz2 := R.frozen 2
    have fkz3 := R.frozen 3
    have fkz4 := R.frozen 4
    have fkz5 := R.frozen 5
    have fkz6 := R.frozen 6
    have fkz7 := R.frozen 7
    go_enter Try.func31, Try.ntmps31
    go_wp2_with fail
    refine (pw17 hg hl hW _).mono ?_
    rintro e1 w1 ⟨rfl, bb⟩
    clear kx0 fkx0 kx1 fkx1 kx2 fkx2 kx3 fkx3 kx4 fkx4 kx5 fkx5 kx6 fkx6 kx7 fkx7 kz0 fkz0 kz1 fkz1 kz2 fkz2 kz3 fkz3 kz4 fkz4 kz5 fkz5 kz6 fkz6 kz7 fkz7
    replace X := X.below bb
    replace R := R.below bb
    replace B0 := B0.trans (bb.mono B0.size)
    clear bb
    have kx0 := X.cell 0 _ rfl
    have kx1 := X.cell 1 _ rfl
    have kx2 := X.cell 2 _ rfl
    have kx3 := X.cell 3 _ rfl
    have kx4 := X.cell 4 _ rfl
    have kx5 := X.cell 5 _ rfl
    have kx6 := X.cell 6 _ rfl
    have kx7 := X.cell 7 _ rfl
    have fkx0 := X.frozen 0
    have fkx1 := X.frozen 1
    have fkx2 := X.frozen 2
    have fkx3 := X.frozen 3
    have fkx4 := X.frozen 4
    have fkx5 := X.frozen 5
    have fkx6 := X.frozen 6
    have fkx7 := X.frozen 7
    have kz0 := R.cell 0 _ rfl
    have kz1 := R.cell 1 _ rfl
    have kz2 := R.cell 2 _ rfl
    have kz3 := R.cell 3 _ rfl
    have kz4 := R.cell 4 _ rfl
    have kz5 := R.cell 5 _ rfl
    have kz6 := R.cell 6 _ rfl
    have kz7 := R.cell 7 _ rfl
    have fkz0 := R.frozen 0
    have fkz1 := R.frozen 1
    have fkz2 := R.frozen 2
    have fkz3 := R.frozen 3
    have fkz4 := R.frozen 4
    have fkz5 := R.frozen 5
    have fkz6 := R.frozen 6
    have fkz7 := R.frozen 7
    go_wp2_with fail
    clear kx0 fkx0 kx1 fkx1 kx2 fkx2 kx3 fkx3 kx4 fkx4 kx5 fkx5 kx6 fkx6 kx7 fkx7 kz0 fkz0 kz1 fkz1 kz2 fkz2 kz3 fkz3 kz4 fkz4 kz5 fkz5 kz6 fkz6 kz7 fkz7
    replace R := R.other5 (k := w.heap.size) (by omega) (.string ⟨s'.toArray⟩) (.string ⟨p'.toArray⟩) (.int .i64 r') (.int .i64 f') (.bool o')
    replace B0 := bel_put5 (B := w.heap.size) B0 (Nat.le_refl _) (.string ⟨s'.toArray⟩) (.string ⟨p'.toArray⟩) (.int .i64 r') (.int .i64 f') (.bool o')
    replace X := X.put58 (.string ⟨s'.toArray⟩) (.string ⟨p'.toArray⟩) (.int .i64 r') (.int .i64 f') (.bool o')
    have lX := Lib.hid R.lt
    refine (pdone17_any s' p' r' f' o' _ _ _ H' x rec hl _ (HS.out.below B0)).mono ?_
    rintro e1 w2 ⟨uo, uh, uc, rfl, bb, G', hT⟩
    obtain ⟨bo, mo, dq, bh, mh, dh, bc, mc, dc, rfl, rfl, rfl⟩ := (hT _ (Agr.refl _ _) (HS.out.below (B0.trans (bb.mono B0.size)))).slices
    simp only [stC]
    replace X := X.below bb
    replace R := R.below bb
    replace B0 := B0.trans (bb.mono B0.size)
    clear bb
    have A2 := agrOf hT
    replace hT := Lib.hid hT
    have kx0 := X.cell 0 _ rfl
    have kx1 := X.cell 1 _ rfl
    have kx2 := X.cell 2 _ rfl
    have kx3 := X.cell 3 _ rfl
    have kx4 := X.cell 4 _ rfl
    have kx5 := X.cell 5 _ rfl
    have kx6 := X.cell 6 _ rfl
    have kx7 := X.cell 7 _ rfl
    have fkx0 := X.frozen 0
    have fkx1 := X.frozen 1
    have fkx2 := X.frozen 2
    have fkx3 := X.frozen 3
    have fkx4 := X.frozen 4
    have fkx5 := X.frozen 5
    have fkx6 := X.frozen 6
    have fkx7 := X.frozen 7
    have kz0 := R.cell 0 _ rfl
    have kz1 := R.cell 1 _ rfl
    have kz2 := R.cell 2 _ rfl
    have kz3 := R.cell 3 _ rfl
    have kz4 := R.cell 4 _ rfl
    have kz5 := R.cell 5 _ rfl
    have kz6 := R.cell 6 _ rfl
    have kz7 := R.cell 7 _ rfl
    have fkz0 := R.frozen 0
    have fkz1 := R.frozen 1
    have fkz2 := R.frozen 2
    have fkz3 := R.frozen 3
    have fkz4 := R.frozen 4
    have fkz5 := R.frozen 5
    have fkz6 := R.frozen 6
    have fkz7 := R.frozen 7
    go_wp2_with fail
    clear kx0 fkx0 kx1 fkx1 kx2 fkx2 kx3 fkx3 kx4 fkx4 kx5 fkx5 kx6 fkx6 kx7 fkx7 kz0 fkz0 kz1 fkz1 kz2 fkz2 kz3 fkz3 kz4 fkz4 kz5 fkz5 kz6 fkz6 kz7 fkz7
    replace R := SBox.other8 (k := w.heap.size) R (by omega) (.string ⟨s'.toArray⟩) (.string ⟨p'.toArray⟩) (.int .i64 r') (.int .i64 f') (.bool o') (.slice bo mo dq) (.slice bh mh dh) (.slice bc mc dc)
    replace B0 := bel_put8 (B := w.heap.size) B0 (Nat.le_refl _) (.string ⟨s'.toArray⟩) (.string ⟨p'.toArray⟩) (.int .i64 r') (.int .i64 f') (.bool o') (.slice bo mo dq) (.slice bh mh dh) (.slice bc mc dc)
    replace X := X.put8 (.string ⟨s'.toArray⟩) (.string ⟨p'.toArray⟩) (.int .i64 r') (.int .i64 f') (.bool o') (.slice bo mo dq) (.slice bh mh dh) (.slice bc mc dc)
    replace A2 := A2.set8 (k := w.heap.size) (by have := lX.out; omega) (.string ⟨s'.toArray⟩) (.string ⟨p'.toArray⟩) (.int .i64 r') (.int .i64 f') (.bool o') (.slice bo mo dq) (.slice bh mh dh) (.slice bc mc dc)
    have BZ := bel_put8 (B := w.heap.size + 1) B0 (by omega)
    refine bodyPost_ret (results_st2 Try.results31 _ _ (w.heap.size + 1) _ rfl rfl (R.put8 _ _ _ _ _ _ _ _)) rfl ⟨_, _, _, rfl, BZ _ _ _ _ _ _ _ _, _, fun V hV hSV => hT.out V ((A2.set8 (k := w.heap.size + 1) (by have := lX.out; omega) _ _ _ _ _ _ _ _).trans (hV.mono (by have := lX.out; omega))) hSV⟩
  · have hy : wrS ((s, p, r, f, o), x) rec = (((s', p', r', f', o'), x), e) := by unfold wrS; simp only [hW]; rw [if_neg he]
    rw [hy]
    simp only
    have he1 : (e == 0) = false := beq_eq_false_iff_ne.2 he
    clear he hy
    have kx0 := X.cell 0 _ rfl
    have kx1 := X.cell 1 _ rfl
    have kx2 := X.cell 2 _ rfl
    have kx3 := X.cell 3 _ rfl
    have kx4 := X.cell 4 _ rfl
    have kx5 := X.cell 5 _ rfl
    have kx6 := X.cell 6 _ rfl
    have kx7 := X.cell 7 _ rfl
    have fkx0 := X.frozen 0
    have fkx1 := X.frozen 1
    have fkx2 := X.frozen 2
    have fkx3 := X.frozen 3
    have fkx4 := X.frozen 4
    have fkx5 := X.frozen 5
    have fkx6 := X.frozen 6
    have fkx7 := X.frozen 7
    have kz0 := R.cell 0 _ rfl
    have kz1 := R.cell 1 _ rfl
    have kz2 := R.cell 2 _ rfl
    have kz3 := R.cell 3 _ rfl
    have kz4 := R.cell 4 _ rfl
    have kz5 := R.cell 5 _ rfl
    have kz6 := R.cell 6 _ rfl
    have kz7 := R.cell 7 _ rfl
    have fkz0 := R.frozen 0
    have fkz1 := R.frozen 1
    have fkz2 := R.frozen 2
    have fkz3 := R.frozen 3
    have fkz4 := R.frozen 4
    have fkz5 := R.frozen 5
    have fkz6 := R.frozen 6
    have fkz7 := R.frozen 7
    go_enter Try.func31, Try.ntmps31
    go_wp2_with fail
    refine (pw17 hg hl hW _).mono ?_
    rintro e1 w1 ⟨rfl, bb⟩
    clear kx0 fkx0 kx1 fkx1 kx2 fkx2 kx3 fkx3 kx4 fkx4 kx5 fkx5 kx6 fkx6 kx7 fkx7 kz0 fkz0 kz1 fkz1 kz2 fkz2 kz3 fkz3 kz4 fkz4 kz5 fkz5 kz6 fkz6 kz7 fkz7
    replace X := X.below bb
    replace R := R.below bb
    replace B0 := B0.trans (bb.mono B0.size)
    clear bb
    have kx0 := X.cell 0 _ rfl
    have kx1 := X.cell 1 _ rfl
    have kx2 := X.cell 2 _ rfl
    have kx3 := X.cell 3 _ rfl
    have kx4 := X.cell 4 _ rfl
    have kx5 := X.cell 5 _ rfl
    have kx6 := X.cell 6 _ rfl
    have kx7 := X.cell 7 _ rfl
    have fkx0 := X.frozen 0
    have fkx1 := X.frozen 1
    have fkx2 := X.frozen 2
    have fkx3 := X.frozen 3
    have fkx4 := X.frozen 4
    have fkx5 := X.frozen 5
    have fkx6 := X.frozen 6
    have fkx7 := X.frozen 7
    have kz0 := R.cell 0 _ rfl
    have kz1 := R.cell 1 _ rfl
    have kz2 := R.cell 2 _ rfl
    have kz3 := R.cell 3 _ rfl
    have kz4 := R.cell 4 _ rfl
    have kz5 := R.cell 5 _ rfl
    have kz6 := R.cell 6 _ rfl
    have kz7 := R.cell 7 _ rfl
    have fkz0 := R.frozen 0
    have fkz1 := R.frozen 1
    have fkz2 := R.frozen 2
    have fkz3 := R.frozen 3
    have fkz4 := R.frozen 4
    have fkz5 := R.frozen 5
    have fkz6 := R.frozen 6
    have fkz7 := R.frozen 7
    go_wp2_with fail
    clear kx0 fkx0 kx1 fkx1 kx2 fkx2 kx3 fkx3 kx4 fkx4 kx5 fkx5 kx6 fkx6 kx7 fkx7 kz0 fkz0 kz1 fkz1 kz2 fkz2 kz3 fkz3 kz4 fkz4 kz5 fkz5 kz6 fkz6 kz7 fkz7
    replace R := R.other5 (k := w.heap.size) (by omega) (.string ⟨s'.toArray⟩) (.string ⟨p'.toArray⟩) (.int .i64 r') (.int .i64 f') (.bool o')
    replace B0 := bel_put5 (B := w.heap.size) B0 (Nat.le_refl _) (.string ⟨s'.toArray⟩) (.string ⟨p'.toArray⟩) (.int .i64 r') (.int .i64 f') (.bool o')
    replace X := X.put58 (.string ⟨s'.toArray⟩) (.string ⟨p'.toArray⟩) (.int .i64 r') (.int .i64 f') (.bool o')
    have BZ := bel_put8 (B := w.heap.size + 1) B0 (by omega)
    refine bodyPost_ret (results_st2 Try.results31 _ _ (w.heap.size + 1) _ rfl rfl (R.put8 _ _ _ _ _ _ _ _)) rfl ⟨_, _, _, rfl, BZ _ _ _ _ _ _ _ _, _, fun V _ h => h⟩
set_option maxHeartbeats 4000000 in
theorem psynced17_any (s p : List UInt8) (r f : Int) (o : Bool) (vo vh vc : Value) (H' : List Value) (x : Sd) (e0 : Int) (hg : s.length ≤ 1125899906842624 ∧ p.length ≤ 1125899906842624) (w : World) (hS : StIn w vo vh vc H' x) :
    Calls Try.prog 35 #[.agg (stC (s, p, r, f, o) vo vh vc), .int .i64 e0] w fun e w' => StoRes w vo vh vc H' x (syS ((s, p, r, f, o), x) e0) e w' := by
  obtain ⟨ao, no, co, ah, nh, ch, ac, nc, cc, rfl, rfl, rfl⟩ := hS.slices
  have HS := Lib.hid hS
  clear hS
  have X := (SBox.new w 28 #[.string ⟨s.toArray⟩, .string ⟨p.toArray⟩, .int .i64 r, .int .i64 f, .bool o, .slice ao no co, .slice ah nh ch, .slice ac nc cc]).alloc (.cells zS17 28)
  have R := sbox2 w (.cells #[.string ⟨s.toArray⟩, .string ⟨p.toArray⟩, .int .i64 r, .int .i64 f, .bool o, .slice ao no co, .slice ah nh ch, .slice ac nc cc] 28) 28 zS17
  have B0 := bel2 w (.cells #[.string ⟨s.toArray⟩, .string ⟨p.toArray⟩, .int .i64 r, .int .i64 f, .bool o, .slice ao no co, .slice ah nh ch, .slice ac nc cc] 28) (.cells zS17 28)
  obtain ⟨s', p', r', f', o', e, hW⟩ : ∃ a b c d g e, syncT (s, p, r, f, o) = ((a, b, c, d, g), e) := ⟨_, _, _, _, _, _, rfl⟩
  unfold StoRes stC
  by_cases he : e0 = 0
  · have hy : syS ((s, p, r, f, o), x) e0 = (((s', p', r', f', o'), x), e) := by unfold syS; simp only [hW]; rw [if_pos he]
    rw [hy]
    simp only
    have he1 : (e0 == 0) = true := by rw [he]; rfl
    clear he hy
    have kx0 := X.cell 0 _ rfl
    have kx1 := X.cell 1 _ rfl
    have kx2 := X.cell 2 _ rfl
    have kx3 := X.cell 3 _ rfl
    have kx4 := X.cell 4 _ rfl
    have kx5 := X.cell 5 _ rfl
    have kx6 := X.cell 6 _ rfl
    have kx7 := X.cell 7 _ rfl
    have fkx0 := X.frozen 0
    have fkx1 := X.frozen 1
    have fkx2 := X.frozen 2
    have fkx3 := X.frozen 3
    have fkx4 := X.frozen 4
    have fkx5 := X.frozen 5
    have fkx6 := X.frozen 6
    have fkx7 := X.frozen 7
    have kz0 := R.cell 0 _ rfl
    have kz1 := R.cell 1 _ rfl
    have kz2 := R.cell 2 _ rfl
    have kz3 := R.cell 3 _ rfl
    have kz4 := R.cell 4 _ rfl
    have kz5 := R.cell 5 _ rfl
    have kz6 := R.cell 6 _ rfl
    have kz7 := R.cell 7 _ rfl
    have fkz0 := R.frozen 0
    have fkz1 := R.frozen 1
    have fkz2 := R.frozen 2
    have fkz3 := R.frozen 3
    have fkz4 := R.frozen 4
    have fkz5 := R.frozen 5
    have fkz6 := R.frozen 6
    have fkz7 := R.frozen 7
    go_enter Try.func35, Try.ntmps35
    go_wp2_with fail
    refine (ps17 hg hW _).mono ?_
    rintro e1 w1 ⟨rfl, bb⟩
    clear kx0 fkx0 kx1 fkx1 kx2 fkx2 kx3 fkx3 kx4 fkx4 kx5 fkx5 kx6 fkx6 kx7 fkx7 kz0 fkz0 kz1 fkz1 kz2 fkz2 kz3 fkz3 kz4 fkz4 kz5 fkz5 kz6 fkz6 kz7 fkz7
    replace X := X.below bb
    replace R := R.below bb
    replace B0 := B0.trans (bb.mono B0.size)
    clear bb
    have kx0 := X.cell 0 _ rfl
    have kx1 := X.cell 1 _ rfl
    have kx2 := X.cell 2 _ rfl
    have kx3 := X.cell 3 _ rfl
    have kx4 := X.cell 4 _ rfl
    have kx5 := X.cell 5 _ rfl
    have kx6 := X.cell 6 _ rfl
    have kx7 := X.cell 7 _ rfl
    have fkx0 := X.frozen 0
    have fkx1 := X.frozen 1
    have fkx2 := X.frozen 2
    have fkx3 := X.frozen 3
    have fkx4 := X.frozen 4
    have fkx5 := X.frozen 5
    have fkx6 := X.frozen 6
    have fkx7 := X.frozen 7
    have kz0 := R.cell 0 _ rfl
    have kz1 := R.cell 1 _ rfl
    have kz2 := R.cell 2 _ rfl
    have kz3 := R.cell 3 _ rfl
    have kz4 := R.cell 4 _ rfl
    have kz5 := R.cell 5 _ rfl
    have kz6 := R.cell 6 _ rfl
    have kz7 := R.cell 7 _ rfl
    have fkz0 := R.frozen 0
    have fkz1 := R.frozen 1
    have fkz2 := R.frozen 2
    have fkz3 := R.frozen 3
    have fkz4 := R.frozen 4
    have fkz5 := R.frozen 5
    have fkz6 := R.frozen 6
    have fkz7 := R.frozen 7
    go_wp2_with fail
    clear kx0 fkx0 kx1 fkx1 kx2 fkx2 kx3 fkx3 kx4 fkx4 kx5 fkx5 kx6 fkx6 kx7 fkx7 kz0 fkz0 kz1 fkz1 kz2 fkz2 kz3 fkz3 kz4 fkz4 kz5 fkz5 kz6 fkz6 kz7 fkz7
    replace R := R.other5 (k := w.heap.size) (by omega) (.string ⟨s'.toArray⟩) (.string ⟨p'.toArray⟩) (.int .i64 r') (.int .i64 f') (.bool o')
    replace B0 := bel_put5 (B := w.heap.size) B0 (Nat.le_refl _) (.string ⟨s'.toArray⟩) (.string ⟨p'.toArray⟩) (.int .i64 r') (.int .i64 f') (.bool o')
    replace X := X.put58 (.string ⟨s'.toArray⟩) (.string ⟨p'.toArray⟩) (.int .i64 r') (.int .i64 f') (.bool o')
    have BZ := bel_put8 (B := w.heap.size + 1) B0 (by omega)
    refine bodyPost_ret (results_st2 Try.results35 _ _ (w.heap.size + 1) _ rfl rfl (R.put8 _ _ _ _ _ _ _ _)) rfl ⟨_, _, _, rfl, BZ _ _ _ _ _ _ _ _, _, fun V _ h => h⟩
  · have hy : syS ((s, p, r, f, o), x) e0 = (((s, p, r, f, o), x), e0) := by unfold syS; rw [if_neg he]
    rw [hy]
    simp only
    have he1 : (e0 == 0) = false := beq_eq_false_iff_ne.2 he
    clear he hy
    have kx0 := X.cell 0 _ rfl
    have kx1 := X.cell 1 _ rfl
    have kx2 := X.cell 2 _ rfl
    have kx3 := X.cell 3 _ rfl
    have kx4 := X.cell 4 _ rfl
    have kx5 := X.cell 5 _ rfl
    have kx6 := X.cell 6 _ rfl
    have kx7 := X.cell 7 _ rfl
    have fkx0 := X.frozen 0
    have fkx1 := X.frozen 1
    have fkx2 := X.frozen 2
    have fkx3 := X.frozen 3
    have fkx4 := X.frozen 4
    have fkx5 := X.frozen 5
    have fkx6 := X.frozen 6
    have fkx7 := X.frozen 7
    have kz0 := R.cell 0 _ rfl
    have kz1 := R.cell 1 _ rfl
    have kz2 := R.cell 2 _ rfl
    have kz3 := R.cell 3 _ rfl
    have kz4 := R.cell 4 _ rfl
    have kz5 := R.cell 5 _ rfl
    have kz6 := R.cell 6 _ rfl
    have kz7 := R.cell 7 _ rfl
    have fkz0 := R.frozen 0
    have fkz1 := R.frozen 1
    have fkz2 := R.frozen 2
    have fkz3 := R.frozen 3
    have fkz4 := R.frozen 4
    have fkz5 := R.frozen 5
    have fkz6 := R.frozen 6
    have fkz7 := R.frozen 7
    go_enter Try.func35, Try.ntmps35
    go_wp2_with fail
    exact bodyPost_ret (results_st2 Try.results35 _ _ (w.heap.size + 1) _ rfl rfl (sbox2 _ _ _ _)) rfl ⟨_, _, _, rfl, bel2 w _ _, _, fun V _ h => h⟩
end Go.Proofs.Ytngllioidfffdaa
