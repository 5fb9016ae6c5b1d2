/-
  What cartoucheref07.Twins answers.
-/
import Derived.Test.YtihggfkenhkglaaDoorZR7Twins
import Derived.Test.YtihggfkenhkglaaDoorZR7One
import Derived.Maps.AppendAt
namespace Go.Proofs.YtihggfkenhkglaaDoor
set_option maxRecDepth 100000
open Go.RowKit
set_option linter.unusedVariables false
attribute [local go_sem] ba_size ba_append
theorem range_next (f : Nat → List UInt8) (k : Nat) : (List.range (k + 1)).map f = (List.range k).map f ++ [f k] := by rw [List.range_succ, List.map_append]; rfl
/-- Two rows that do not share a block. -/
def Apart (u v : Value) : Prop := ∀ b, u.ownBlock = some b → v.ownBlock ≠ some b
theorem own_apart {W w' : World} {B e k n : Nat} {u v : Value} {xs : List Value} (h : W.ownsRow B e k v n xs) (g : W.grownBy w' u.ownBlock) (ha : Apart u v) : w'.ownsRow B e k v n xs := by
  by_cases hu : u.ownBlock = none
  · rw [hu] at g; exact owns_below h ⟨g.os, g.tape, g.output, g.size, fun i hi => g.block i hi (by simp)⟩
  · obtain ⟨b, hb⟩ := Option.ne_none_iff_exists'.1 hu
    exact h.kept g (.inr (by rw [hb]; exact ha b hb))
theorem twin_len5 (h : List Ev) (ha : allMay h) : ∀ t ∈ keysIn h, t.length ≤ 100 := by
  intro t ht
  unfold keysIn at ht
  obtain ⟨i, hi, rfl⟩ := List.mem_map.1 ht
  have hi' : i < h.length := List.mem_range.1 hi
  have hm := ha _ (List.getElem_mem hi')
  unfold keyIn keyAt
  rw [ev_get h i hi']
  obtain ⟨⟨x0, x1, x2, x3⟩, hx⟩ : ∃ x, h[i] = x := ⟨_, rfl⟩
  rw [hx] at hm ⊢
  simp only
  by_cases hk : keyedE x0
  · rw [if_pos hk]; have := ((mayE_key hk).1 hm).2; simp only [List.length_cons]; omega
  · rw [if_neg hk]; simp
theorem twin_len6 (h : List Ev) (ha : allMay h) : ∀ t ∈ valsIn h, t.length ≤ 100 := by
  intro t ht
  unfold valsIn at ht
  obtain ⟨i, hi, rfl⟩ := List.mem_map.1 ht
  have hi' : i < h.length := List.mem_range.1 hi
  have hm := ha _ (List.getElem_mem hi')
  unfold valIn valAt
  rw [ev_get h i hi']
  obtain ⟨⟨x0, x1, x2, x3⟩, hx⟩ : ∃ x, h[i] = x := ⟨_, rfl⟩
  rw [hx] at hm ⊢
  simp only
  by_cases hk : keyedE x0 ∧ x3 ≠ []
  · rw [if_pos hk]; have := ((mayE_key hk.1).1 hm).2; simp only [List.length_cons]; omega
  · rw [if_neg hk]; simp
theorem str_info7 : (Tryd.prog.info? 9).map (fun i => (i.zero, i.size, i.bytes)) = some (some (.string ByteArray.empty), 1, 16) := by kernel_rfl
theorem oneP_zero (s : List UInt8) (x : Ev) (h1 : mayE x) (h2 : mayK s) : (oneP s x).2 = 0 := by rw [oneP_ok s x h1 h2]
set_option maxHeartbeats 8000000 in
theorem rtwins2_any (s : List UInt8) (h : List Ev) (v : Value) (w : World) (hT : IsEvs w v h) (hle : h.length ≤ 256) :
    Calls Tryd.prog 24 #[.string ⟨s.toArray⟩, v] w fun e w' => e = .returned (twV (twinsP s h)) ∧ Below w.heap.size w w' := by
  obtain ⟨i0, hi, hz0, hz1, hz2⟩ := info_parts str_info7
  obtain ⟨a, cap, rfl, h1, h2, h3, HC⟩ := hT.some_at
  obtain ⟨n, hn⟩ : ∃ n, h.length = n := ⟨_, rfl⟩
  have HN : Hid (h.length = n) := hn
  rw [hn] at h1 h3 hle ⊢
  clear hT hn
  go_enter Tryd.func24, Tryd.ntmps24
  go_wp2_with fail
  go_loopw [7, 8, 9] (fun r r' i wr => ∃ k : Nat, k ≤ n ∧ i = .int .i64 k ∧ Hid (allMay (h.take k) ∧ (mayK s ∨ k = 0)) ∧ Below w.heap.size w wr ∧ wr.ownsRow w.heap.size 9 1 r k (strV ((List.range k).map (keyIn h))) ∧ wr.ownsRow w.heap.size 9 1 r' k (strV ((List.range k).map (valIn h))) ∧ Hid (Apart r r')) (fun _ _ i _ => n - (intOf i).toNat)
  case atStart => exact ⟨0, Nat.zero_le _, rfl, ⟨by intro x hx; simp at hx, Or.inr rfl⟩, Below.refl _ _, World.ownsRow_nil _ _ _ _, World.ownsRow_nil _ _ _ _, fun b hb => by simp [Value.ownBlock] at hb⟩
  case round =>
    obtain ⟨k, hk, rfl, HA, hbw, hr7, hr8, HAp⟩ := hrel
    by_cases hlt : k < n
    · have hk1 : k < h.length := by have := HN.out; omega
      obtain ⟨bb, off, rfl, hblt, hcell⟩ := HC.out k hk1
      obtain ⟨p0, p1, p2, p3⟩ := IsEvs.at hk1 hcell
      obtain ⟨⟨x0, x1, x2, x3⟩, hx⟩ : ∃ x, h[k] = x := ⟨_, rfl⟩
      have HX : Hid (h[k] = (x0, x1, x2, x3)) := hx
      rw [hx] at p0 p1 p2 p3
      simp only at p0 p1 p2 p3
      have HQ : Hid (∀ V, Below w.heap.size w V → V.cell? ⟨bb, off + k * 4, none⟩ = some (.int .i64 x0) ∧ V.cell? ⟨bb, off + k * 4 + 1, none⟩ = some (.int .i64 x1) ∧ V.cell? ⟨bb, off + k * 4 + 2, none⟩ = some (.string ⟨x2.toArray⟩) ∧ V.cell? ⟨bb, off + k * 4 + 3, none⟩ = some (.string ⟨x3.toArray⟩)) := fun V hV =>
        ⟨(hV.cell (p := ⟨bb, off + k * 4, none⟩) hblt).trans p0, (hV.cell (p := ⟨bb, off + k * 4 + 1, none⟩) hblt).trans p1, (hV.cell (p := ⟨bb, off + k * 4 + 2, none⟩) hblt).trans p2, (hV.cell (p := ⟨bb, off + k * 4 + 3, none⟩) hblt).trans p3⟩
      obtain ⟨q0, q1, q2, q3⟩ := HQ.out _ hbw
      clear p0 p1 p2 p3 hcell hx
      have C := fun W => rone_any s x0 x1 x2 x3 W
      by_cases hm : mayE (x0, x1, x2, x3) ∧ mayK s
      · have hz := oneP_zero s _ hm.1 hm.2
        obtain ⟨⟨⟨y0, y1, y2, y3⟩, y4⟩, hy⟩ : ∃ y, oneP s (x0, x1, x2, x3) = y := ⟨_, rfl⟩
        rw [hy] at C hz
        simp only at hz
        subst hz
        clear hy
        have HA' : Hid (allMay (h.take (k + 1)) ∧ (mayK s ∨ k + 1 = 0)) := ⟨allMay_next h k hk1 HA.out.1 (by rw [HX.out]; exact hm.1), Or.inl hm.2⟩
        have HKI : Hid (keyIn h k = if keyedE x0 then 5 :: x2 else []) := by show _ = _; unfold keyIn keyAt; rw [ev_get h k hk1, HX.out]
        have HVI : Hid (valIn h k = if keyedE x0 ∧ x3 ≠ [] then 6 :: x3 else []) := by show _ = _; unfold valIn valAt; rw [ev_get h k hk1, HX.out]
        have z2 : 1 + x2.length ≤ 9223372036854775807 := by
          by_cases hkk : x0 = 2 ∨ x0 = 3
          · have := ((mayE_key hkk).1 hm.1).2; omega
          · have := ((mayE_unkey hkk).1 hm.1).2; rw [this.1]; simp
        have z3 : 1 + x3.length ≤ 9223372036854775807 := by
          by_cases hkk : x0 = 2 ∨ x0 = 3
          · have := ((mayE_key hkk).1 hm.1).2; omega
          · have := ((mayE_unkey hkk).1 hm.1).2; rw [this.2]; simp
        by_cases hkk : x0 = 2 ∨ x0 = 3
        · have kE : keyIn h k = 5 :: x2 := by rw [HKI.out, if_pos (show keyedE x0 from hkk)]
          by_cases hv : x3 = []
          · have vE : valIn h k = [] := by rw [HVI.out, if_neg (fun hh => hh.2 hv)]
            subst hv
            rcases hkk with rfl | rfl
            · go_wp2_with fail
              refine (C _).mono ?_
              rintro e w1 ⟨rfl, b1⟩
              have B1 := bel_trans hbw b1
              have B1' := B1.alloc B1.size (.cells #[.int .i64 y0, .int .i64 y1, .string ⟨y2.toArray⟩, .string ⟨y3.toArray⟩] 23)
              have O7 := (owns_below hr7 b1).alloc (.cells #[.int .i64 y0, .int .i64 y1, .string ⟨y2.toArray⟩, .string ⟨y3.toArray⟩] 23)
              have O8 := (owns_below hr8 b1).alloc (.cells #[.int .i64 y0, .int .i64 y1, .string ⟨y2.toArray⟩, .string ⟨y3.toArray⟩] 23)
              obtain ⟨c0, c1, c2, c3⟩ := HQ.out _ B1'
              have sz := B1.size
              go_wp2_with (at_builtin; go_loud (refine wpList_append_own_at _ rfl _ _ 64 rfl w.heap.size 9 i0 (.string ByteArray.empty) 1 16 Tryd.underlying64 hi hz0 hz1 hz2 rfl (by decide) _ _ _ rfl (O7.alloc _) ⟨w1.heap.size + 1, 0, none⟩ 1 1 [.string ⟨(5 :: x2).toArray⟩] rfl rfl ?a1p2 ?a2p2 ?a3p2 ?a4p2 ?a5p2 ?_))
              case a1p2 =>
                intro j u hj
                match j, hj with
                | 0, hj => simp at hj; subst hj; first | (simp [Addr.add]; done) | exact cell_new7 (by simp) rfl
              case a2p2 => intro u hu; simp at hu; subst hu; rfl
              case a3p2 => unfold maxLen; omega
              case a4p2 => omega
              case a5p2 => simp; omega
              intro v7 w2 own7 g2 _ at7
              have O8' := own_apart (O8.alloc _) g2 HAp.out
              have B2 : Below w.heap.size w w2 := (B1'.alloc B1'.size _).grown g2 (by have := B1'.size; simp at this ⊢; omega) (fun j hj => (hr7.lt j hj).1)
              have Ap2 : Apart u8 v7 := by
                intro b hb h7
                rcases at7 with h | h
                · exact HAp.out b (h ▸ h7) hb
                · have := (hr8.lt b hb).2
                  have s1 := b1.size
                  rw [h] at h7
                  simp at h7
                  omega
              have sz2 := B2.size
              go_wp2_with (at_builtin; refine wpList_append_own_at _ rfl _ _ 64 rfl w.heap.size 9 i0 (.string ByteArray.empty) 1 16 Tryd.underlying64 hi hz0 hz1 hz2 rfl (by decide) _ _ _ rfl (O8'.alloc _) ⟨w2.heap.size, 0, none⟩ 1 1 [.string ⟨#[]⟩] rfl rfl ?b1p2 ?b2p2 ?b3p2 ?b4p2 ?b5p2 ?_)
              case b1p2 =>
                intro j u hj
                match j, hj with
                | 0, hj => simp at hj; subst hj; first | (simp [Addr.add]; done) | exact cell_new7 (by simp) rfl
              case b2p2 => intro u hu; simp at hu; subst hu; rfl
              case b3p2 => unfold maxLen; omega
              case b4p2 => omega
              case b5p2 => simp; omega
              intro v8 w3 own8 g3 _ at8
              have O7' := own_apart (own7.alloc _) g3 Ap2
              have B3 : Below w.heap.size w w3 := (B2.alloc B2.size _).grown g3 (by have := B2.size; simp at this ⊢; omega) (fun j hj => (O8'.lt j hj).1)
              have Ap3 : Apart v7 v8 := by
                intro b hb h8
                rcases at8 with h | h
                · exact Ap2 b (h ▸ h8) hb
                · have := (own7.lt b hb).2
                  rw [h] at h8
                  simp at h8
                  omega
              go_wp2_with fail
              refine ⟨?relp2, ?meap2⟩
              case relp2 =>
                refine ⟨k + 1, by omega, by first | go_num | simp, HA', B3, ?_, ?_, Ap3⟩
                · rw [range_next, kE, strV_snoc]; exact O7'
                · rw [range_next, vE, strV_snoc]; exact own8
              case meap2 => simp [intOf]; omega
            · go_wp2_with fail
              refine (C _).mono ?_
              rintro e w1 ⟨rfl, b1⟩
              have B1 := bel_trans hbw b1
              have B1' := B1.alloc B1.size (.cells #[.int .i64 y0, .int .i64 y1, .string ⟨y2.toArray⟩, .string ⟨y3.toArray⟩] 23)
              have O7 := (owns_below hr7 b1).alloc (.cells #[.int .i64 y0, .int .i64 y1, .string ⟨y2.toArray⟩, .string ⟨y3.toArray⟩] 23)
              have O8 := (owns_below hr8 b1).alloc (.cells #[.int .i64 y0, .int .i64 y1, .string ⟨y2.toArray⟩, .string ⟨y3.toArray⟩] 23)
              obtain ⟨c0, c1, c2, c3⟩ := HQ.out _ B1'
              have sz := B1.size
              go_wp2_with (at_builtin; go_loud (refine wpList_append_own_at _ rfl _ _ 64 rfl w.heap.size 9 i0 (.string ByteArray.empty) 1 16 Tryd.underlying64 hi hz0 hz1 hz2 rfl (by decide) _ _ _ rfl (O7.alloc _) ⟨w1.heap.size + 1, 0, none⟩ 1 1 [.string ⟨(5 :: x2).toArray⟩] rfl rfl ?a1p3 ?a2p3 ?a3p3 ?a4p3 ?a5p3 ?_))
              case a1p3 =>
                intro j u hj
                match j, hj with
                | 0, hj => simp at hj; subst hj; first | (simp [Addr.add]; done) | exact cell_new7 (by simp) rfl
              case a2p3 => intro u hu; simp at hu; subst hu; rfl
              case a3p3 => unfold maxLen; omega
              case a4p3 => omega
              case a5p3 => simp; omega
              intro v7 w2 own7 g2 _ at7
              have O8' := own_apart (O8.alloc _) g2 HAp.out
              have B2 : Below w.heap.size w w2 := (B1'.alloc B1'.size _).grown g2 (by have := B1'.size; simp at this ⊢; omega) (fun j hj => (hr7.lt j hj).1)
              have Ap2 : Apart u8 v7 := by
                intro b hb h7
                rcases at7 with h | h
                · exact HAp.out b (h ▸ h7) hb
                · have := (hr8.lt b hb).2
                  have s1 := b1.size
                  rw [h] at h7
                  simp at h7
                  omega
              have sz2 := B2.size
              go_wp2_with (at_builtin; refine wpList_append_own_at _ rfl _ _ 64 rfl w.heap.size 9 i0 (.string ByteArray.empty) 1 16 Tryd.underlying64 hi hz0 hz1 hz2 rfl (by decide) _ _ _ rfl (O8'.alloc _) ⟨w2.heap.size, 0, none⟩ 1 1 [.string ⟨#[]⟩] rfl rfl ?b1p3 ?b2p3 ?b3p3 ?b4p3 ?b5p3 ?_)
              case b1p3 =>
                intro j u hj
                match j, hj with
                | 0, hj => simp at hj; subst hj; first | (simp [Addr.add]; done) | exact cell_new7 (by simp) rfl
              case b2p3 => intro u hu; simp at hu; subst hu; rfl
              case b3p3 => unfold maxLen; omega
              case b4p3 => omega
              case b5p3 => simp; omega
              intro v8 w3 own8 g3 _ at8
              have O7' := own_apart (own7.alloc _) g3 Ap2
              have B3 : Below w.heap.size w w3 := (B2.alloc B2.size _).grown g3 (by have := B2.size; simp at this ⊢; omega) (fun j hj => (O8'.lt j hj).1)
              have Ap3 : Apart v7 v8 := by
                intro b hb h8
                rcases at8 with h | h
                · exact Ap2 b (h ▸ h8) hb
                · have := (own7.lt b hb).2
                  rw [h] at h8
                  simp at h8
                  omega
              go_wp2_with fail
              refine ⟨?relp3, ?meap3⟩
              case relp3 =>
                refine ⟨k + 1, by omega, by first | go_num | simp, HA', B3, ?_, ?_, Ap3⟩
                · rw [range_next, kE, strV_snoc]; exact O7'
                · rw [range_next, vE, strV_snoc]; exact own8
              case meap3 => simp [intOf]; omega
          · have nv := ne_nil7 x3 hv
            have vE : valIn h k = 6 :: x3 := by rw [HVI.out, if_pos ⟨hkk, hv⟩]
            rcases hkk with rfl | rfl
            · go_wp2_with fail
              refine (C _).mono ?_
              rintro e w1 ⟨rfl, b1⟩
              have B1 := bel_trans hbw b1
              have B1' := B1.alloc B1.size (.cells #[.int .i64 y0, .int .i64 y1, .string ⟨y2.toArray⟩, .string ⟨y3.toArray⟩] 23)
              have O7 := (owns_below hr7 b1).alloc (.cells #[.int .i64 y0, .int .i64 y1, .string ⟨y2.toArray⟩, .string ⟨y3.toArray⟩] 23)
              have O8 := (owns_below hr8 b1).alloc (.cells #[.int .i64 y0, .int .i64 y1, .string ⟨y2.toArray⟩, .string ⟨y3.toArray⟩] 23)
              obtain ⟨c0, c1, c2, c3⟩ := HQ.out _ B1'
              have sz := B1.size
              go_wp2_with (at_builtin; go_loud (refine wpList_append_own_at _ rfl _ _ 64 rfl w.heap.size 9 i0 (.string ByteArray.empty) 1 16 Tryd.underlying64 hi hz0 hz1 hz2 rfl (by decide) _ _ _ rfl (O7.alloc _) ⟨w1.heap.size + 1, 0, none⟩ 1 1 [.string ⟨(5 :: x2).toArray⟩] rfl rfl ?a1q2 ?a2q2 ?a3q2 ?a4q2 ?a5q2 ?_))
              case a1q2 =>
                intro j u hj
                match j, hj with
                | 0, hj => simp at hj; subst hj; first | (simp [Addr.add]; done) | exact cell_new7 (by simp) rfl
              case a2q2 => intro u hu; simp at hu; subst hu; rfl
              case a3q2 => unfold maxLen; omega
              case a4q2 => omega
              case a5q2 => simp; omega
              intro v7 w2 own7 g2 _ at7
              have O8' := own_apart (O8.alloc _) g2 HAp.out
              have B2 : Below w.heap.size w w2 := (B1'.alloc B1'.size _).grown g2 (by have := B1'.size; simp at this ⊢; omega) (fun j hj => (hr7.lt j hj).1)
              have Ap2 : Apart u8 v7 := by
                intro b hb h7
                rcases at7 with h | h
                · exact HAp.out b (h ▸ h7) hb
                · have := (hr8.lt b hb).2
                  have s1 := b1.size
                  rw [h] at h7
                  simp at h7
                  omega
              have sz2 := B2.size
              go_wp2_with (at_builtin; refine wpList_append_own_at _ rfl _ _ 64 rfl w.heap.size 9 i0 (.string ByteArray.empty) 1 16 Tryd.underlying64 hi hz0 hz1 hz2 rfl (by decide) _ _ _ rfl (O8'.alloc _) ⟨w2.heap.size, 0, none⟩ 1 1 [.string ⟨(6 :: x3).toArray⟩] rfl rfl ?b1q2 ?b2q2 ?b3q2 ?b4q2 ?b5q2 ?_)
              case b1q2 =>
                intro j u hj
                match j, hj with
                | 0, hj => simp at hj; subst hj; first | (simp [Addr.add]; done) | exact cell_new7 (by simp) rfl
              case b2q2 => intro u hu; simp at hu; subst hu; rfl
              case b3q2 => unfold maxLen; omega
              case b4q2 => omega
              case b5q2 => simp; omega
              intro v8 w3 own8 g3 _ at8
              have O7' := own_apart (own7.alloc _) g3 Ap2
              have B3 : Below w.heap.size w w3 := (B2.alloc B2.size _).grown g3 (by have := B2.size; simp at this ⊢; omega) (fun j hj => (O8'.lt j hj).1)
              have Ap3 : Apart v7 v8 := by
                intro b hb h8
                rcases at8 with h | h
                · exact Ap2 b (h ▸ h8) hb
                · have := (own7.lt b hb).2
                  rw [h] at h8
                  simp at h8
                  omega
              go_wp2_with fail
              refine ⟨?relq2, ?meaq2⟩
              case relq2 =>
                refine ⟨k + 1, by omega, by first | go_num | simp, HA', B3, ?_, ?_, Ap3⟩
                · rw [range_next, kE, strV_snoc]; exact O7'
                · rw [range_next, vE, strV_snoc]; exact own8
              case meaq2 => simp [intOf]; omega
            · go_wp2_with fail
              refine (C _).mono ?_
              rintro e w1 ⟨rfl, b1⟩
              have B1 := bel_trans hbw b1
              have B1' := B1.alloc B1.size (.cells #[.int .i64 y0, .int .i64 y1, .string ⟨y2.toArray⟩, .string ⟨y3.toArray⟩] 23)
              have O7 := (owns_below hr7 b1).alloc (.cells #[.int .i64 y0, .int .i64 y1, .string ⟨y2.toArray⟩, .string ⟨y3.toArray⟩] 23)
              have O8 := (owns_below hr8 b1).alloc (.cells #[.int .i64 y0, .int .i64 y1, .string ⟨y2.toArray⟩, .string ⟨y3.toArray⟩] 23)
              obtain ⟨c0, c1, c2, c3⟩ := HQ.out _ B1'
              have sz := B1.size
              go_wp2_with (at_builtin; go_loud (refine wpList_append_own_at _ rfl _ _ 64 rfl w.heap.size 9 i0 (.string ByteArray.empty) 1 16 Tryd.underlying64 hi hz0 hz1 hz2 rfl (by decide) _ _ _ rfl (O7.alloc _) ⟨w1.heap.size + 1, 0, none⟩ 1 1 [.string ⟨(5 :: x2).toArray⟩] rfl rfl ?a1q3 ?a2q3 ?a3q3 ?a4q3 ?a5q3 ?_))
              case a1q3 =>
                intro j u hj
                match j, hj with
                | 0, hj => simp at hj; subst hj; first | (simp [Addr.add]; done) | exact cell_new7 (by simp) rfl
              case a2q3 => intro u hu; simp at hu; subst hu; rfl
              case a3q3 => unfold maxLen; omega
              case a4q3 => omega
              case a5q3 => simp; omega
              intro v7 w2 own7 g2 _ at7
              have O8' := own_apart (O8.alloc _) g2 HAp.out
              have B2 : Below w.heap.size w w2 := (B1'.alloc B1'.size _).grown g2 (by have := B1'.size; simp at this ⊢; omega) (fun j hj => (hr7.lt j hj).1)
              have Ap2 : Apart u8 v7 := by
                intro b hb h7
                rcases at7 with h | h
                · exact HAp.out b (h ▸ h7) hb
                · have := (hr8.lt b hb).2
                  have s1 := b1.size
                  rw [h] at h7
                  simp at h7
                  omega
              have sz2 := B2.size
              go_wp2_with (at_builtin; refine wpList_append_own_at _ rfl _ _ 64 rfl w.heap.size 9 i0 (.string ByteArray.empty) 1 16 Tryd.underlying64 hi hz0 hz1 hz2 rfl (by decide) _ _ _ rfl (O8'.alloc _) ⟨w2.heap.size, 0, none⟩ 1 1 [.string ⟨(6 :: x3).toArray⟩] rfl rfl ?b1q3 ?b2q3 ?b3q3 ?b4q3 ?b5q3 ?_)
              case b1q3 =>
                intro j u hj
                match j, hj with
                | 0, hj => simp at hj; subst hj; first | (simp [Addr.add]; done) | exact cell_new7 (by simp) rfl
              case b2q3 => intro u hu; simp at hu; subst hu; rfl
              case b3q3 => unfold maxLen; omega
              case b4q3 => omega
              case b5q3 => simp; omega
              intro v8 w3 own8 g3 _ at8
              have O7' := own_apart (own7.alloc _) g3 Ap2
              have B3 : Below w.heap.size w w3 := (B2.alloc B2.size _).grown g3 (by have := B2.size; simp at this ⊢; omega) (fun j hj => (O8'.lt j hj).1)
              have Ap3 : Apart v7 v8 := by
                intro b hb h8
                rcases at8 with h | h
                · exact Ap2 b (h ▸ h8) hb
                · have := (own7.lt b hb).2
                  rw [h] at h8
                  simp at h8
                  omega
              go_wp2_with fail
              refine ⟨?relq3, ?meaq3⟩
              case relq3 =>
                refine ⟨k + 1, by omega, by first | go_num | simp, HA', B3, ?_, ?_, Ap3⟩
                · rw [range_next, kE, strV_snoc]; exact O7'
                · rw [range_next, vE, strV_snoc]; exact own8
              case meaq3 => simp [intOf]; omega
        · have kE : keyIn h k = [] := by rw [HKI.out, if_neg (show ¬ keyedE x0 from hkk)]
          have vE : valIn h k = [] := by rw [HVI.out, if_neg (fun hh => hkk hh.1)]
          have j2 : (x0 == 2) = false := beq_eq_false_iff_ne.2 (fun hh => hkk (Or.inl hh))
          have j3 : (x0 == 3) = false := beq_eq_false_iff_ne.2 (fun hh => hkk (Or.inr hh))
          go_wp2_with fail
          refine (C _).mono ?_
          rintro e w1 ⟨rfl, b1⟩
          have B1 := bel_trans hbw b1
          have B1' := B1.alloc B1.size (.cells #[.int .i64 y0, .int .i64 y1, .string ⟨y2.toArray⟩, .string ⟨y3.toArray⟩] 23)
          have O7 := (owns_below hr7 b1).alloc (.cells #[.int .i64 y0, .int .i64 y1, .string ⟨y2.toArray⟩, .string ⟨y3.toArray⟩] 23)
          have O8 := (owns_below hr8 b1).alloc (.cells #[.int .i64 y0, .int .i64 y1, .string ⟨y2.toArray⟩, .string ⟨y3.toArray⟩] 23)
          obtain ⟨c0, c1, c2, c3⟩ := HQ.out _ B1'
          have sz := B1.size
          go_wp2_with (at_builtin; go_loud (refine wpList_append_own_at _ rfl _ _ 64 rfl w.heap.size 9 i0 (.string ByteArray.empty) 1 16 Tryd.underlying64 hi hz0 hz1 hz2 rfl (by decide) _ _ _ rfl (O7.alloc _) ⟨w1.heap.size + 1, 0, none⟩ 1 1 [.string ⟨#[]⟩] rfl rfl ?a1r ?a2r ?a3r ?a4r ?a5r ?_))
          case a1r =>
            intro j u hj
            match j, hj with
            | 0, hj => simp at hj; subst hj; first | (simp [Addr.add]; done) | exact cell_new7 (by simp) rfl
          case a2r => intro u hu; simp at hu; subst hu; rfl
          case a3r => unfold maxLen; omega
          case a4r => omega
          case a5r => simp; omega
          intro v7 w2 own7 g2 _ at7
          have O8' := own_apart (O8.alloc _) g2 HAp.out
          have B2 : Below w.heap.size w w2 := (B1'.alloc B1'.size _).grown g2 (by have := B1'.size; simp at this ⊢; omega) (fun j hj => (hr7.lt j hj).1)
          have Ap2 : Apart u8 v7 := by
            intro b hb h7
            rcases at7 with h | h
            · exact HAp.out b (h ▸ h7) hb
            · have := (hr8.lt b hb).2
              have s1 := b1.size
              rw [h] at h7
              simp at h7
              omega
          have sz2 := B2.size
          go_wp2_with (at_builtin; refine wpList_append_own_at _ rfl _ _ 64 rfl w.heap.size 9 i0 (.string ByteArray.empty) 1 16 Tryd.underlying64 hi hz0 hz1 hz2 rfl (by decide) _ _ _ rfl (O8'.alloc _) ⟨w2.heap.size, 0, none⟩ 1 1 [.string ⟨#[]⟩] rfl rfl ?b1r ?b2r ?b3r ?b4r ?b5r ?_)
          case b1r =>
            intro j u hj
            match j, hj with
            | 0, hj => simp at hj; subst hj; first | (simp [Addr.add]; done) | exact cell_new7 (by simp) rfl
          case b2r => intro u hu; simp at hu; subst hu; rfl
          case b3r => unfold maxLen; omega
          case b4r => omega
          case b5r => simp; omega
          intro v8 w3 own8 g3 _ at8
          have O7' := own_apart (own7.alloc _) g3 Ap2
          have B3 : Below w.heap.size w w3 := (B2.alloc B2.size _).grown g3 (by have := B2.size; simp at this ⊢; omega) (fun j hj => (O8'.lt j hj).1)
          have Ap3 : Apart v7 v8 := by
            intro b hb h8
            rcases at8 with h | h
            · exact Ap2 b (h ▸ h8) hb
            · have := (own7.lt b hb).2
              rw [h] at h8
              simp at h8
              omega
          go_wp2_with fail
          refine ⟨?relr, ?mear⟩
          case relr =>
            refine ⟨k + 1, by omega, by first | go_num | simp, HA', B3, ?_, ?_, Ap3⟩
            · rw [range_next, kE, strV_snoc]; exact O7'
            · rw [range_next, vE, strV_snoc]; exact own8
          case mear => simp [intOf]; omega
      · rw [oneP_no s _ hm] at C
        have HE : Hid (twinsP s h = ([], [], false)) := twinsP_bad s h k hk1 (by rw [HX.out]; exact hm)
        clear hm
        go_wp2_with fail
        refine (C _).mono ?_
        rintro e w1 ⟨rfl, b1⟩
        have B1 := bel_trans hbw b1
        go_wp2_with fail
        go_ret3
        exact ⟨by rw [HE.out]; rfl, B1.alloc B1.size _⟩
    · obtain rfl : k = n := by omega
      have hg : goodH s h := by
        have := HA.out
        rw [List.take_of_length_le (by have := HN.out; omega)] at this
        refine ⟨this.1, ?_⟩
        rcases this.2 with hh | hh
        · exact Or.inl hh
        · right; exact List.length_eq_zero_iff.1 (by rw [HN.out, hh])
      have eK : (List.range k).map (keyIn h) = keysIn h := by unfold keysIn; rw [HN.out]
      have eV : (List.range k).map (valIn h) = valsIn h := by unfold valsIn; rw [HN.out]
      rw [eK] at hr7
      rw [eV] at hr8
      have bK : ∀ t ∈ keysIn h, t.length ≤ 100 := twin_len5 h hg.1
      have bV : ∀ t ∈ valsIn h, t.length ≤ 100 := twin_len6 h hg.1
      have T7 : IsTxt wr u7 (keysIn h) := IsTxt.own hr7 (by omega) (fun t ht => by have := bK t ht; omega)
      have T8 : IsTxt wr u8 (valsIn h) := IsTxt.own hr8 (by omega) (fun t ht => by have := bV t ht; omega)
      have hs1 : mayK s ∨ keysIn h = [] := by
        rcases hg.2 with hh | hh
        · exact Or.inl hh
        · right; rw [hh]; rfl
      have hs2 : mayK s ∨ valsIn h = [] := by
        rcases hg.2 with hh | hh
        · exact Or.inl hh
        · right; rw [hh]; rfl
      have C1 := rtwins_any s (keysIn h) u7 wr T7 hs1
      rw [keysIn_len] at C1
      cases ht : twinsG (keyL s) (txtAt (keysIn h)) h.length with
      | some p =>
        have HE : Hid (twinsP s h = (p.1, p.2, true)) := twinsP_key s h hg p ht
        rw [ht] at C1
        unfold twV twinsR at C1
        simp only at C1
        obtain ⟨p1, p2⟩ := p
        clear ht hg
        go_wp2_with fail
        refine C1.mono ?_
        rintro e w1 ⟨rfl, b1⟩
        go_wp2_with fail
        go_ret3
        exact ⟨by rw [HE.out]; rfl, bel_trans hbw b1⟩
      | none =>
        have HE : Hid (twinsP s h = twinsR (twinsG (keyL s) (txtAt (valsIn h)) h.length)) := twinsP_val s h hg ht
        rw [ht] at C1
        have C2 := fun W hW => rtwins_any s (valsIn h) u8 W (T8.below (w' := W) hW) hs2
        rw [valsIn_len] at C2
        obtain ⟨⟨r1, r2, r3⟩, hr⟩ : ∃ r, twinsR (twinsG (keyL s) (txtAt (valsIn h)) h.length) = r := ⟨_, rfl⟩
        rw [hr] at C2 HE
        unfold twV twinsR at C1
        unfold twV at C2
        simp only at C1 C2
        clear ht hg hr
        go_wp2_with fail
        refine C1.mono ?_
        rintro e w1 ⟨rfl, b1⟩
        go_wp2_with fail
        refine (C2 _ b1).mono ?_
        rintro e w2 ⟨rfl, b2⟩
        go_wp2_with fail
        go_ret3
        exact ⟨by rw [HE.out]; rfl, bel_trans (bel_trans hbw b1) b2⟩
end Go.Proofs.YtihggfkenhkglaaDoor
