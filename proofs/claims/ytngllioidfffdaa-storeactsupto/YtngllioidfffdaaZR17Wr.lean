/-
  What cartoucheref17.write answers.
-/
import Derived.Test.YtngllioidfffdaaZR17Does
import Derived.Test.YtngllioidfffdaaGR
namespace Go.Proofs.Ytngllioidfffdaa
set_option maxRecDepth 100000
open Go.RowKit
set_option linter.unusedVariables false
attribute [local go_sem] ba_size
theorem rw17 {s p s' p' rec : List UInt8} {r f r' f' : Int} {o o' : Bool} {e : Int} (hg : goodW (s, p, r, f, o)) (hl : rec.length ≤ 1125899906842624) (h : writeT (s, p, r, f, o) rec = ((s', p', r', f', o'), e)) (w : World) :
    Calls Try.prog 58 #[tA s p r f o, .string ⟨rec.toArray⟩] w fun x w' => x = .returned (.tuple #[tA s' p' r' f' o', .int .i64 e]) ∧ Below w.heap.size w w' := by
  have := rwrite16_any s p rec r f o hg (by omega) w; rw [h] at this; exact this
theorem rs17 {s p s' p' : List UInt8} {r f r' f' : Int} {o o' : Bool} {e : Int} (hg : s.length ≤ 1125899906842624 ∧ p.length ≤ 1125899906842624) (h : syncT (s, p, r, f, o) = ((s', p', r', f', o'), e)) (w : World) :
    Calls Try.prog 59 #[tA s p r f o] w fun x w' => x = .returned (.tuple #[tA s' p' r' f' o', .int .i64 e]) ∧ Below w.heap.size w w' := by
  have := rsync16_any s p r f o hg.1 hg.2 w; rw [h] at this; exact this
/-- What is written lies in memory, too. -/
theorem writeT_len {s p s' p' rec : List UInt8} {r f r' f' : Int} {o o' : Bool} {e : Int} (hs : s.length ≤ 562949953421312 ∧ p.length ≤ 562949953421312) (h : writeT (s, p, r, f, o) rec = ((s', p', r', f', o'), e)) : s'.length ≤ 1125899906842624 ∧ p'.length ≤ 1125899906842624 := by
  unfold writeT laidT at h
  have hl := Lm.lenL_le rec.length
  split at h
  · simp only [Prod.mk.injEq] at h; obtain ⟨⟨rfl, rfl, _⟩, _⟩ := h; omega
  split at h
  · simp only [Prod.mk.injEq] at h; obtain ⟨⟨rfl, rfl, _⟩, _⟩ := h; omega
  rename_i h2
  have hb : (Lm.lenL rec.length ++ rec).length ≤ 65538 := by rw [List.length_append]; omega
  split at h
  · simp only [Prod.mk.injEq] at h; obtain ⟨⟨rfl, rfl, _⟩, _⟩ := h; omega
  split at h
  · simp only [Prod.mk.injEq] at h; obtain ⟨⟨rfl, rfl, _⟩, _⟩ := h; rw [List.length_append, List.length_take]; omega
  · simp only [Prod.mk.injEq] at h; obtain ⟨⟨rfl, rfl, _⟩, _⟩ := h; rw [List.length_append]; omega
set_option maxHeartbeats 8000000 in
theorem rwrite17_any (s p : List UInt8) (r f : Int) (o : Bool) (vo vh vc : Value) (H' : List Value) (x : Sd) (rec : List UInt8) (sync : Bool) (hg : goodW (s, p, r, f, o)) (hsp : s.length ≤ 562949953421312 ∧ p.length ≤ 562949953421312) (hl : rec.length ≤ 1125899906842624) (w : World) (hS : StIn w vo vh vc H' x) :
    Calls Try.prog 34 #[.agg (stC (s, p, r, f, o) vo vh vc), .string ⟨rec.toArray⟩, .bool sync] w fun e w' => StoRes w vo vh vc H' x (writeS ((s, p, r, f, o), x) rec sync) e w' := by
  obtain ⟨ao, no, co, ah, nh, ch, ac, nc, cc, rfl, rfl, rfl⟩ := hS.slices
  have HS := Lib.hid hS
  clear hS
  have X := (SBox.new w 28 #[.string ⟨s.toArray⟩, .string ⟨p.toArray⟩, .int .i64 r, .int .i64 f, .bool o, .slice ao no co, .slice ah nh ch, .slice ac nc cc]).alloc (.cells zS17 28)
  have R := sbox2 w (.cells #[.string ⟨s.toArray⟩, .string ⟨p.toArray⟩, .int .i64 r, .int .i64 f, .bool o, .slice ao no co, .slice ah nh ch, .slice ac nc cc] 28) 28 zS17
  have B0 := bel2 w (.cells #[.string ⟨s.toArray⟩, .string ⟨p.toArray⟩, .int .i64 r, .int .i64 f, .bool o, .slice ao no co, .slice ah nh ch, .slice ac nc cc] 28) (.cells zS17 28)
  obtain ⟨s', p', r', f', o', e, hW⟩ : ∃ a b c d g e, writeT (s, p, r, f, o) rec = ((a, b, c, d, g), e) := ⟨_, _, _, _, _, _, rfl⟩
  have hb := writeT_len hsp hW
  unfold StoRes stC
  by_cases he : e = 0
  · have he1 : (e == 0) = true := by rw [he]; rfl
    cases sync with
    | false =>
      have hy : writeS ((s, p, r, f, o), x) rec false = (((s', p', r', f', o'), (doesR x rec).2), 0) := by rw [writeS_no]; unfold wrS; simp only [hW]; rw [if_pos he]
      rw [hy]
      simp only
      clear he hy
      have kx0 := X.cell 0 _ rfl
      have kx1 := X.cell 1 _ rfl
      have kx2 := X.cell 2 _ rfl
      have kx3 := X.cell 3 _ rfl
      have kx4 := X.cell 4 _ rfl
      have kx5 := X.cell 5 _ rfl
      have kx6 := X.cell 6 _ rfl
      have kx7 := X.cell 7 _ rfl
      have fkx0 := X.frozen 0
      have fkx1 := X.frozen 1
      have fkx2 := X.frozen 2
      have fkx3 := X.frozen 3
      have fkx4 := X.frozen 4
      have fkx5 := X.frozen 5
      have fkx6 := X.frozen 6
      have fkx7 := X.frozen 7
      have kz0 := R.cell 0 _ rfl
      have kz1 := R.cell 1 _ rfl
      have kz2 := R.cell 2 _ rfl
      have kz3 := R.cell 3 _ rfl
      have kz4 := R.cell 4 _ rfl
      have kz5 := R.cell 5 _ rfl
      have kz6 := R.cell 6 _ rfl
      have kz7 := R.cell 7 _ rfl
      have fkz0 := R.frozen 0
      have fkz1 := R.frozen 1
      have fkz2 := R.frozen 2
      have fkz3 := R.frozen 3
      have fkz4 := R.frozen 4
      have fkz5 := R.frozen 5
      have fkz6 := R.frozen 6
      have fkz7 := R.frozen 7
      go_enter Try.func34, Try.ntmps34
      go_wp2_with fail
      refine (rw17 hg hl hW _).mono ?_
      rintro e1 w1 ⟨rfl, bb⟩
      clear kx0 fkx0 kx1 fkx1 kx2 fkx2 kx3 fkx3 kx4 fkx4 kx5 fkx5 kx6 fkx6 kx7 fkx7 kz0 fkz0 kz1 fkz1 kz2 fkz2 kz3 fkz3 kz4 fkz4 kz5 fkz5 kz6 fkz6 kz7 fkz7
      replace X := X.below bb
      replace R := R.below bb
      replace B0 := B0.trans (bb.mono B0.size)
      clear bb
      replace X := X.alloc (.cells #[(.string ⟨s'.toArray⟩), (.string ⟨p'.toArray⟩), (.int .i64 r'), (.int .i64 f'), (.bool o')] 23)
      replace R := R.alloc (.cells #[(.string ⟨s'.toArray⟩), (.string ⟨p'.toArray⟩), (.int .i64 r'), (.int .i64 f'), (.bool o')] 23)
      replace B0 := B0.alloc B0.size (.cells #[(.string ⟨s'.toArray⟩), (.string ⟨p'.toArray⟩), (.int .i64 r'), (.int .i64 f'), (.bool o')] 23)
      have kx0 := X.cell 0 _ rfl
      have kx1 := X.cell 1 _ rfl
      have kx2 := X.cell 2 _ rfl
      have kx3 := X.cell 3 _ rfl
      have kx4 := X.cell 4 _ rfl
      have kx5 := X.cell 5 _ rfl
      have kx6 := X.cell 6 _ rfl
      have kx7 := X.cell 7 _ rfl
      have fkx0 := X.frozen 0
      have fkx1 := X.frozen 1
      have fkx2 := X.frozen 2
      have fkx3 := X.frozen 3
      have fkx4 := X.frozen 4
      have fkx5 := X.frozen 5
      have fkx6 := X.frozen 6
      have fkx7 := X.frozen 7
      have kz0 := R.cell 0 _ rfl
      have kz1 := R.cell 1 _ rfl
      have kz2 := R.cell 2 _ rfl
      have kz3 := R.cell 3 _ rfl
      have kz4 := R.cell 4 _ rfl
      have kz5 := R.cell 5 _ rfl
      have kz6 := R.cell 6 _ rfl
      have kz7 := R.cell 7 _ rfl
      have fkz0 := R.frozen 0
      have fkz1 := R.frozen 1
      have fkz2 := R.frozen 2
      have fkz3 := R.frozen 3
      have fkz4 := R.frozen 4
      have fkz5 := R.frozen 5
      have fkz6 := R.frozen 6
      have fkz7 := R.frozen 7
      go_wp2_with fail
      clear kx0 fkx0 kx1 fkx1 kx2 fkx2 kx3 fkx3 kx4 fkx4 kx5 fkx5 kx6 fkx6 kx7 fkx7 kz0 fkz0 kz1 fkz1 kz2 fkz2 kz3 fkz3 kz4 fkz4 kz5 fkz5 kz6 fkz6 kz7 fkz7
      replace R := R.other5 (k := w.heap.size) (by omega) (.string ⟨s'.toArray⟩) (.string ⟨p'.toArray⟩) (.int .i64 r') (.int .i64 f') (.bool o')
      replace B0 := bel_put5 (B := w.heap.size) B0 (Nat.le_refl _) (.string ⟨s'.toArray⟩) (.string ⟨p'.toArray⟩) (.int .i64 r') (.int .i64 f') (.bool o')
      replace X := X.put58 (.string ⟨s'.toArray⟩) (.string ⟨p'.toArray⟩) (.int .i64 r') (.int .i64 f') (.bool o')
      have lX := Lib.hid R.lt
      refine (rdoes17_any s' p' r' f' o' _ _ _ H' x rec hl _ (HS.out.below B0)).mono ?_
      rintro e1 w2 ⟨uo, uh, uc, rfl, bb, G', hT⟩
      obtain ⟨bo, mo, dq, bh, mh, dh, bc, mc, dc, rfl, rfl, rfl⟩ := (hT _ (Agr.refl _ _) (HS.out.below (B0.trans (bb.mono B0.size)))).slices
      simp only [stC]
      replace X := X.below bb
      replace R := R.below bb
      replace B0 := B0.trans (bb.mono B0.size)
      clear bb
      have A2 := agrOf hT
      replace hT := Lib.hid hT
      have kx0 := X.cell 0 _ rfl
      have kx1 := X.cell 1 _ rfl
      have kx2 := X.cell 2 _ rfl
      have kx3 := X.cell 3 _ rfl
      have kx4 := X.cell 4 _ rfl
      have kx5 := X.cell 5 _ rfl
      have kx6 := X.cell 6 _ rfl
      have kx7 := X.cell 7 _ rfl
      have fkx0 := X.frozen 0
      have fkx1 := X.frozen 1
      have fkx2 := X.frozen 2
      have fkx3 := X.frozen 3
      have fkx4 := X.frozen 4
      have fkx5 := X.frozen 5
      have fkx6 := X.frozen 6
      have fkx7 := X.frozen 7
      have kz0 := R.cell 0 _ rfl
      have kz1 := R.cell 1 _ rfl
      have kz2 := R.cell 2 _ rfl
      have kz3 := R.cell 3 _ rfl
      have kz4 := R.cell 4 _ rfl
      have kz5 := R.cell 5 _ rfl
      have kz6 := R.cell 6 _ rfl
      have kz7 := R.cell 7 _ rfl
      have fkz0 := R.frozen 0
      have fkz1 := R.frozen 1
      have fkz2 := R.frozen 2
      have fkz3 := R.frozen 3
      have fkz4 := R.frozen 4
      have fkz5 := R.frozen 5
      have fkz6 := R.frozen 6
      have fkz7 := R.frozen 7
      go_wp2_with fail
      clear kx0 fkx0 kx1 fkx1 kx2 fkx2 kx3 fkx3 kx4 fkx4 kx5 fkx5 kx6 fkx6 kx7 fkx7 kz0 fkz0 kz1 fkz1 kz2 fkz2 kz3 fkz3 kz4 fkz4 kz5 fkz5 kz6 fkz6 kz7 fkz7
      replace R := SBox.other8 (k := w.heap.size) R (by omega) (.string ⟨s'.toArray⟩) (.string ⟨p'.toArray⟩) (.int .i64 r') (.int .i64 f') (.bool o') (.slice bo mo dq) (.slice bh mh dh) (.slice bc mc dc)
      replace B0 := bel_put8 (B := w.heap.size) B0 (Nat.le_refl _) (.string ⟨s'.toArray⟩) (.string ⟨p'.toArray⟩) (.int .i64 r') (.int .i64 f') (.bool o') (.slice bo mo dq) (.slice bh mh dh) (.slice bc mc dc)
      replace X := X.put8 (.string ⟨s'.toArray⟩) (.string ⟨p'.toArray⟩) (.int .i64 r') (.int .i64 f') (.bool o') (.slice bo mo dq) (.slice bh mh dh) (.slice bc mc dc)
      replace A2 := A2.set8 (k := w.heap.size) (by have := lX.out; omega) (.string ⟨s'.toArray⟩) (.string ⟨p'.toArray⟩) (.int .i64 r') (.int .i64 f') (.bool o') (.slice bo mo dq) (.slice bh mh dh) (.slice bc mc dc)
      have BZ := bel_put8 (B := w.heap.size + 1) B0 (by omega)
      refine bodyPost_ret (results_st2 Try.results34 _ _ (w.heap.size + 1) _ rfl rfl (R.put8 _ _ _ _ _ _ _ _)) rfl ⟨_, _, _, rfl, BZ _ _ _ _ _ _ _ _, _, fun V hV hSV => hT.out V ((A2.set8 (k := w.heap.size + 1) (by have := lX.out; omega) _ _ _ _ _ _ _ _).trans (hV.mono (by have := lX.out; omega))) hSV⟩
    | true =>
      obtain ⟨s2, p2, r2, f2, o2, e2, hY⟩ : ∃ a b c d g e, syncT (s', p', r', f', o') = ((a, b, c, d, g), e) := ⟨_, _, _, _, _, _, rfl⟩
      have hy : writeS ((s, p, r, f, o), x) rec true = (((s2, p2, r2, f2, o2), (doesR x rec).2), e2) := by rw [writeS_yes]; unfold wrS; simp only [hW]; rw [if_pos he]; unfold syS; rw [if_pos rfl]; simp only [hY]
      rw [hy]
      simp only
      clear he hy
      have kx0 := X.cell 0 _ rfl
      have kx1 := X.cell 1 _ rfl
      have kx2 := X.cell 2 _ rfl
      have kx3 := X.cell 3 _ rfl
      have kx4 := X.cell 4 _ rfl
      have kx5 := X.cell 5 _ rfl
      have kx6 := X.cell 6 _ rfl
      have kx7 := X.cell 7 _ rfl
      have fkx0 := X.frozen 0
      have fkx1 := X.frozen 1
      have fkx2 := X.frozen 2
      have fkx3 := X.frozen 3
      have fkx4 := X.frozen 4
      have fkx5 := X.frozen 5
      have fkx6 := X.frozen 6
      have fkx7 := X.frozen 7
      have kz0 := R.cell 0 _ rfl
      have kz1 := R.cell 1 _ rfl
      have kz2 := R.cell 2 _ rfl
      have kz3 := R.cell 3 _ rfl
      have kz4 := R.cell 4 _ rfl
      have kz5 := R.cell 5 _ rfl
      have kz6 := R.cell 6 _ rfl
      have kz7 := R.cell 7 _ rfl
      have fkz0 := R.frozen 0
      have fkz1 := R.frozen 1
      have fkz2 := R.frozen 2
      have fkz3 := R.frozen 3
      have fkz4 := R.frozen 4
      have fkz5 := R.frozen 5
      have fkz6 := R.frozen 6
      have fkz7 := R.frozen 7
      go_enter Try.func34, Try.ntmps34
      go_wp2_with fail
      refine (rw17 hg hl hW _).mono ?_
      rintro e1 w1 ⟨rfl, bb⟩
      clear kx0 fkx0 kx1 fkx1 kx2 fkx2 kx3 fkx3 kx4 fkx4 kx5 fkx5 kx6 fkx6 kx7 fkx7 kz0 fkz0 kz1 fkz1 kz2 fkz2 kz3 fkz3 kz4 fkz4 kz5 fkz5 kz6 fkz6 kz7 fkz7
      replace X := X.below bb
      replace R := R.below bb
      replace B0 := B0.trans (bb.mono B0.size)
      clear bb
      replace X := X.alloc (.cells #[(.string ⟨s'.toArray⟩), (.string ⟨p'.toArray⟩), (.int .i64 r'), (.int .i64 f'), (.bool o')] 23)
      replace R := R.alloc (.cells #[(.string ⟨s'.toArray⟩), (.string ⟨p'.toArray⟩), (.int .i64 r'), (.int .i64 f'), (.bool o')] 23)
      replace B0 := B0.alloc B0.size (.cells #[(.string ⟨s'.toArray⟩), (.string ⟨p'.toArray⟩), (.int .i64 r'), (.int .i64 f'), (.bool o')] 23)
      have kx0 := X.cell 0 _ rfl
      have kx1 := X.cell 1 _ rfl
      have kx2 := X.cell 2 _ rfl
      have kx3 := X.cell 3 _ rfl
      have kx4 := X.cell 4 _ rfl
      have kx5 := X.cell 5 _ rfl
      have kx6 := X.cell 6 _ rfl
      have kx7 := X.cell 7 _ rfl
      have fkx0 := X.frozen 0
      have fkx1 := X.frozen 1
      have fkx2 := X.frozen 2
      have fkx3 := X.frozen 3
      have fkx4 := X.frozen 4
      have fkx5 := X.frozen 5
      have fkx6 := X.frozen 6
      have fkx7 := X.frozen 7
      have kz0 := R.cell 0 _ rfl
      have kz1 := R.cell 1 _ rfl
      have kz2 := R.cell 2 _ rfl
      have kz3 := R.cell 3 _ rfl
      have kz4 := R.cell 4 _ rfl
      have kz5 := R.cell 5 _ rfl
      have kz6 := R.cell 6 _ rfl
      have kz7 := R.cell 7 _ rfl
      have fkz0 := R.frozen 0
      have fkz1 := R.frozen 1
      have fkz2 := R.frozen 2
      have fkz3 := R.frozen 3
      have fkz4 := R.frozen 4
      have fkz5 := R.frozen 5
      have fkz6 := R.frozen 6
      have fkz7 := R.frozen 7
      go_wp2_with fail
      clear kx0 fkx0 kx1 fkx1 kx2 fkx2 kx3 fkx3 kx4 fkx4 kx5 fkx5 kx6 fkx6 kx7 fkx7 kz0 fkz0 kz1 fkz1 kz2 fkz2 kz3 fkz3 kz4 fkz4 kz5 fkz5 kz6 fkz6 kz7 fkz7
      replace R := R.other5 (k := w.heap.size) (by omega) (.string ⟨s'.toArray⟩) (.string ⟨p'.toArray⟩) (.int .i64 r') (.int .i64 f') (.bool o')
      replace B0 := bel_put5 (B := w.heap.size) B0 (Nat.le_refl _) (.string ⟨s'.toArray⟩) (.string ⟨p'.toArray⟩) (.int .i64 r') (.int .i64 f') (.bool o')
      replace X := X.put58 (.string ⟨s'.toArray⟩) (.string ⟨p'.toArray⟩) (.int .i64 r') (.int .i64 f') (.bool o')
      have lX := Lib.hid R.lt
      refine (rdoes17_any s' p' r' f' o' _ _ _ H' x rec hl _ (HS.out.below B0)).mono ?_
      rintro e1 w2 ⟨uo, uh, uc, rfl, bb, G', hT⟩
      obtain ⟨bo, mo, dq, bh, mh, dh, bc, mc, dc, rfl, rfl, rfl⟩ := (hT _ (Agr.refl _ _) (HS.out.below (B0.trans (bb.mono B0.size)))).slices
      simp only [stC]
      replace X := X.below bb
      replace R := R.below bb
      replace B0 := B0.trans (bb.mono B0.size)
      clear bb
      have A2 := agrOf hT
      replace hT := Lib.hid hT
      have kx0 := X.cell 0 _ rfl
      have kx1 := X.cell 1 _ rfl
      have kx2 := X.cell 2 _ rfl
      have kx3 := X.cell 3 _ rfl
      have kx4 := X.cell 4 _ rfl
      have kx5 := X.cell 5 _ rfl
      have kx6 := X.cell 6 _ rfl
      have kx7 := X.cell 7 _ rfl
      have fkx0 := X.frozen 0
      have fkx1 := X.frozen 1
      have fkx2 := X.frozen 2
      have fkx3 := X.frozen 3
      have fkx4 := X.frozen 4
      have fkx5 := X.frozen 5
      have fkx6 := X.frozen 6
      have fkx7 := X.frozen 7
      have kz0 := R.cell 0 _ rfl
      have kz1 := R.cell 1 _ rfl
      have kz2 := R.cell 2 _ rfl
      have kz3 := R.cell 3 _ rfl
      have kz4 := R.cell 4 _ rfl
      have kz5 := R.cell 5 _ rfl
      have kz6 := R.cell 6 _ rfl
      have kz7 := R.cell 7 _ rfl
      have fkz0 := R.frozen 0
      have fkz1 := R.frozen 1
      have fkz2 := R.frozen 2
      have fkz3 := R.frozen 3
      have fkz4 := R.frozen 4
      have fkz5 := R.frozen 5
      have fkz6 := R.frozen 6
      have fkz7 := R.frozen 7
      go_wp2_with fail
      clear kx0 fkx0 kx1 fkx1 kx2 fkx2 kx3 fkx3 kx4 fkx4 kx5 fkx5 kx6 fkx6 kx7 fkx7 kz0 fkz0 kz1 fkz1 kz2 fkz2 kz3 fkz3 kz4 fkz4 kz5 fkz5 kz6 fkz6 kz7 fkz7
      replace R := SBox.other8 (k := w.heap.size) R (by omega) (.string ⟨s'.toArray⟩) (.string ⟨p'.toArray⟩) (.int .i64 r') (.int .i64 f') (.bool o') (.slice bo mo dq) (.slice bh mh dh) (.slice bc mc dc)
      replace B0 := bel_put8 (B := w.heap.size) B0 (Nat.le_refl _) (.string ⟨s'.toArray⟩) (.string ⟨p'.toArray⟩) (.int .i64 r') (.int .i64 f') (.bool o') (.slice bo mo dq) (.slice bh mh dh) (.slice bc mc dc)
      replace X := X.put8 (.string ⟨s'.toArray⟩) (.string ⟨p'.toArray⟩) (.int .i64 r') (.int .i64 f') (.bool o') (.slice bo mo dq) (.slice bh mh dh) (.slice bc mc dc)
      replace A2 := A2.set8 (k := w.heap.size) (by have := lX.out; omega) (.string ⟨s'.toArray⟩) (.string ⟨p'.toArray⟩) (.int .i64 r') (.int .i64 f') (.bool o') (.slice bo mo dq) (.slice bh mh dh) (.slice bc mc dc)
      refine (rs17 hb hY _).mono ?_
      rintro e1 w3 ⟨rfl, bb⟩
      replace X := X.below bb
      replace R := R.below bb
      replace B0 := B0.trans (bb.mono B0.size)
      replace A2 := A2.trans (Agr.below bb)
      clear bb
      replace X := X.alloc (.cells #[(.string ⟨s2.toArray⟩), (.string ⟨p2.toArray⟩), (.int .i64 r2), (.int .i64 f2), (.bool o2)] 23)
      replace R := R.alloc (.cells #[(.string ⟨s2.toArray⟩), (.string ⟨p2.toArray⟩), (.int .i64 r2), (.int .i64 f2), (.bool o2)] 23)
      replace B0 := B0.alloc B0.size (.cells #[(.string ⟨s2.toArray⟩), (.string ⟨p2.toArray⟩), (.int .i64 r2), (.int .i64 f2), (.bool o2)] 23)
      replace A2 := A2.trans (Agr.below ((Below.refl _ _).alloc (Nat.le_refl _) (.cells #[(.string ⟨s2.toArray⟩), (.string ⟨p2.toArray⟩), (.int .i64 r2), (.int .i64 f2), (.bool o2)] 23)))
      have kx0 := X.cell 0 _ rfl
      have kx1 := X.cell 1 _ rfl
      have kx2 := X.cell 2 _ rfl
      have kx3 := X.cell 3 _ rfl
      have kx4 := X.cell 4 _ rfl
      have kx5 := X.cell 5 _ rfl
      have kx6 := X.cell 6 _ rfl
      have kx7 := X.cell 7 _ rfl
      have fkx0 := X.frozen 0
      have fkx1 := X.frozen 1
      have fkx2 := X.frozen 2
      have fkx3 := X.frozen 3
      have fkx4 := X.frozen 4
      have fkx5 := X.frozen 5
      have fkx6 := X.frozen 6
      have fkx7 := X.frozen 7
      have kz0 := R.cell 0 _ rfl
      have kz1 := R.cell 1 _ rfl
      have kz2 := R.cell 2 _ rfl
      have kz3 := R.cell 3 _ rfl
      have kz4 := R.cell 4 _ rfl
      have kz5 := R.cell 5 _ rfl
      have kz6 := R.cell 6 _ rfl
      have kz7 := R.cell 7 _ rfl
      have fkz0 := R.frozen 0
      have fkz1 := R.frozen 1
      have fkz2 := R.frozen 2
      have fkz3 := R.frozen 3
      have fkz4 := R.frozen 4
      have fkz5 := R.frozen 5
      have fkz6 := R.frozen 6
      have fkz7 := R.frozen 7
      go_wp2_with fail
      clear kx0 fkx0 kx1 fkx1 kx2 fkx2 kx3 fkx3 kx4 fkx4 kx5 fkx5 kx6 fkx6 kx7 fkx7 kz0 fkz0 kz1 fkz1 kz2 fkz2 kz3 fkz3 kz4 fkz4 kz5 fkz5 kz6 fkz6 kz7 fkz7
      replace R := R.other5 (k := w.heap.size) (by omega) (.string ⟨s2.toArray⟩) (.string ⟨p2.toArray⟩) (.int .i64 r2) (.int .i64 f2) (.bool o2)
      replace B0 := bel_put5 (B := w.heap.size) B0 (Nat.le_refl _) (.string ⟨s2.toArray⟩) (.string ⟨p2.toArray⟩) (.int .i64 r2) (.int .i64 f2) (.bool o2)
      replace X := X.put58 (.string ⟨s2.toArray⟩) (.string ⟨p2.toArray⟩) (.int .i64 r2) (.int .i64 f2) (.bool o2)
      replace A2 := A2.set5 (k := w.heap.size) (by have := lX.out; omega) (.string ⟨s2.toArray⟩) (.string ⟨p2.toArray⟩) (.int .i64 r2) (.int .i64 f2) (.bool o2)
      have BZ := bel_put8 (B := w.heap.size + 1) B0 (by omega)
      refine bodyPost_ret (results_st2 Try.results34 _ _ (w.heap.size + 1) _ rfl rfl (R.put8 _ _ _ _ _ _ _ _)) rfl ⟨_, _, _, rfl, BZ _ _ _ _ _ _ _ _, _, fun V hV hSV => hT.out V ((A2.set8 (k := w.heap.size + 1) (by have := lX.out; omega) _ _ _ _ _ _ _ _).trans (hV.mono (by have := lX.out; omega))) hSV⟩
  · have hy : writeS ((s, p, r, f, o), x) rec sync = (((s', p', r', f', o'), x), e) := by
      cases sync
      · rw [writeS_no]; unfold wrS; simp only [hW]; rw [if_neg he]
      · rw [writeS_yes]; unfold wrS; simp only [hW]; rw [if_neg he]; unfold syS; rw [if_neg he]
    rw [hy]
    simp only
    have he1 : (e == 0) = false := beq_eq_false_iff_ne.2 he
    clear he hy
    have kx0 := X.cell 0 _ rfl
    have kx1 := X.cell 1 _ rfl
    have kx2 := X.cell 2 _ rfl
    have kx3 := X.cell 3 _ rfl
    have kx4 := X.cell 4 _ rfl
    have kx5 := X.cell 5 _ rfl
    have kx6 := X.cell 6 _ rfl
    have kx7 := X.cell 7 _ rfl
    have fkx0 := X.frozen 0
    have fkx1 := X.frozen 1
    have fkx2 := X.frozen 2
    have fkx3 := X.frozen 3
    have fkx4 := X.frozen 4
    have fkx5 := X.frozen 5
    have fkx6 := X.frozen 6
    have fkx7 := X.frozen 7
    have kz0 := R.cell 0 _ rfl
    have kz1 := R.cell 1 _ rfl
    have kz2 := R.cell 2 _ rfl
    have kz3 := R.cell 3 _ rfl
    have kz4 := R.cell 4 _ rfl
    have kz5 := R.cell 5 _ rfl
    have kz6 := R.cell 6 _ rfl
    have kz7 := R.cell 7 _ rfl
    have fkz0 := R.frozen 0
    have fkz1 := R.frozen 1
    have fkz2 := R.frozen 2
    have fkz3 := R.frozen 3
    have fkz4 := R.frozen 4
    have fkz5 := R.frozen 5
    have fkz6 := R.frozen 6
    have fkz7 := R.frozen 7
    go_enter Try.func34, Try.ntmps34
    go_wp2_with fail
    refine (rw17 hg hl hW _).mono ?_
    rintro e1 w1 ⟨rfl, bb⟩
    clear kx0 fkx0 kx1 fkx1 kx2 fkx2 kx3 fkx3 kx4 fkx4 kx5 fkx5 kx6 fkx6 kx7 fkx7 kz0 fkz0 kz1 fkz1 kz2 fkz2 kz3 fkz3 kz4 fkz4 kz5 fkz5 kz6 fkz6 kz7 fkz7
    replace X := X.below bb
    replace R := R.below bb
    replace B0 := B0.trans (bb.mono B0.size)
    clear bb
    replace X := X.alloc (.cells #[(.string ⟨s'.toArray⟩), (.string ⟨p'.toArray⟩), (.int .i64 r'), (.int .i64 f'), (.bool o')] 23)
    replace R := R.alloc (.cells #[(.string ⟨s'.toArray⟩), (.string ⟨p'.toArray⟩), (.int .i64 r'), (.int .i64 f'), (.bool o')] 23)
    replace B0 := B0.alloc B0.size (.cells #[(.string ⟨s'.toArray⟩), (.string ⟨p'.toArray⟩), (.int .i64 r'), (.int .i64 f'), (.bool o')] 23)
    have kx0 := X.cell 0 _ rfl
    have kx1 := X.cell 1 _ rfl
    have kx2 := X.cell 2 _ rfl
    have kx3 := X.cell 3 _ rfl
    have kx4 := X.cell 4 _ rfl
    have kx5 := X.cell 5 _ rfl
    have kx6 := X.cell 6 _ rfl
    have kx7 := X.cell 7 _ rfl
    have fkx0 := X.frozen 0
    have fkx1 := X.frozen 1
    have fkx2 := X.frozen 2
    have fkx3 := X.frozen 3
    have fkx4 := X.frozen 4
    have fkx5 := X.frozen 5
    have fkx6 := X.frozen 6
    have fkx7 := X.frozen 7
    have kz0 := R.cell 0 _ rfl
    have kz1 := R.cell 1 _ rfl
    have kz2 := R.cell 2 _ rfl
    have kz3 := R.cell 3 _ rfl
    have kz4 := R.cell 4 _ rfl
    have kz5 := R.cell 5 _ rfl
    have kz6 := R.cell 6 _ rfl
    have kz7 := R.cell 7 _ rfl
    have fkz0 := R.frozen 0
    have fkz1 := R.frozen 1
    have fkz2 := R.frozen 2
    have fkz3 := R.frozen 3
    have fkz4 := R.frozen 4
    have fkz5 := R.frozen 5
    have fkz6 := R.frozen 6
    have fkz7 := R.frozen 7
    go_wp2_with fail
    clear kx0 fkx0 kx1 fkx1 kx2 fkx2 kx3 fkx3 kx4 fkx4 kx5 fkx5 kx6 fkx6 kx7 fkx7 kz0 fkz0 kz1 fkz1 kz2 fkz2 kz3 fkz3 kz4 fkz4 kz5 fkz5 kz6 fkz6 kz7 fkz7
    replace R := R.other5 (k := w.heap.size) (by omega) (.string ⟨s'.toArray⟩) (.string ⟨p'.toArray⟩) (.int .i64 r') (.int .i64 f') (.bool o')
    replace B0 := bel_put5 (B := w.heap.size) B0 (Nat.le_refl _) (.string ⟨s'.toArray⟩) (.string ⟨p'.toArray⟩) (.int .i64 r') (.int .i64 f') (.bool o')
    replace X := X.put58 (.string ⟨s'.toArray⟩) (.string ⟨p'.toArray⟩) (.int .i64 r') (.int .i64 f') (.bool o')
    have BZ := bel_put8 (B := w.heap.size + 1) B0 (by omega)
    refine bodyPost_ret (results_st2 Try.results34 _ _ (w.heap.size + 1) _ rfl rfl (R.put8 _ _ _ _ _ _ _ _)) rfl ⟨_, _, _, rfl, BZ _ _ _ _ _ _ _ _, _, fun V _ h => h⟩
end Go.Proofs.Ytngllioidfffdaa
