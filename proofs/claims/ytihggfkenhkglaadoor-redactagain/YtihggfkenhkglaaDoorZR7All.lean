/-
  What cartoucheref07.All answers.
-/
import Derived.Test.YtihggfkenhkglaaDoorZR7One
import Derived.Test.YtihggfkenhkglaaDoorGH
namespace Go.Proofs.YtihggfkenhkglaaDoor
set_option maxRecDepth 100000
open Go.RowKit
set_option linter.unusedVariables false
attribute [local go_sem] ba_size
set_option maxHeartbeats 2000000 in
theorem rall7_any (s : List UInt8) (l : List Ev) (v : Value) (w : World) (hT : IsEvs w v l) :
    Calls Tryd.prog 19 #[.string ⟨s.toArray⟩, v] w fun e w' => EvRes 23 w (allP s l) e w' := by
  obtain ⟨i0, hi, hz0, hz1, hz2⟩ := info_parts ev_info7
  obtain ⟨a, cap, rfl, h1, h2, h3, HC⟩ := hT.some_at
  obtain ⟨n, hn⟩ : ∃ n, l.length = n := ⟨_, rfl⟩
  have HN : Hid (l.length = n) := hn
  rw [hn] at h1 h3 ⊢
  clear hT hn
  by_cases hbig : 256 < n
  · rw [allP_big s l (by have := HN.out; omega)]
    have j : (256 : Int) < (n : Int) := by omega
    go_enter Tryd.func19, Tryd.ntmps19
    go_wp2_with fail
    go_ret2
    exact ⟨_, rfl, Below.refl _ _, World.ownsRow_nil _ _ _ _⟩
  · have j : ¬ (256 : Int) < (n : Int) := by omega
    go_enter Tryd.func19, Tryd.ntmps19
    go_wp2_with fail
    go_loopw [6, 7] (fun r i wr => ∃ k : Nat, k ≤ n ∧ i = .int .i64 k ∧ Hid (allMay (l.take k) ∧ (mayK s ∨ l.take k = [])) ∧ Below w.heap.size w wr ∧ wr.ownsRow w.heap.size 23 4 r k (recV evV (tagsL (keyL s) (l.take k)))) (fun _ i _ => n - (intOf i).toNat)
    case atStart => exact ⟨0, Nat.zero_le _, rfl, ⟨by intro x hx; simp at hx, Or.inr (by simp)⟩, Below.refl _ _, World.ownsRow_nil _ _ _ _⟩
    case round =>
      obtain ⟨k, hk, rfl, HA, hbw, hrow⟩ := hrel
      by_cases hlt : k < n
      · have hk1 : k < l.length := by have := HN.out; omega
        obtain ⟨bb, off, rfl, hblt, hcell⟩ := HC.out k hk1
        obtain ⟨p0, p1, p2, p3⟩ := IsEvs.at hk1 hcell
        have q0 := (hbw.cell (p := ⟨bb, off + k * 4, none⟩) hblt).trans p0
        have q1 := (hbw.cell (p := ⟨bb, off + k * 4 + 1, none⟩) hblt).trans p1
        have q2 := (hbw.cell (p := ⟨bb, off + k * 4 + 2, none⟩) hblt).trans p2
        have q3 := (hbw.cell (p := ⟨bb, off + k * 4 + 3, none⟩) hblt).trans p3
        clear p0 p1 p2 p3 hcell
        obtain ⟨⟨y0, y1, y2, y3⟩, hy⟩ : ∃ y, l[k] = y := ⟨_, rfl⟩
        have HY : Hid (l[k] = (y0, y1, y2, y3)) := hy
        rw [hy] at q0 q1 q2 q3
        simp only at q0 q1 q2 q3
        clear hy
        have C := fun W => rone_any s y0 y1 y2 y3 W
        by_cases hm : ¬ (mayE (y0, y1, y2, y3) ∧ mayK s)
        · rw [oneP_no s _ hm] at C
          have HE : Hid (allP s l = ([], 1)) := allP_bad s l (by have := HN.out; omega) k hk1 (by rw [HY.out]; exact hm)
          clear hm
          go_wp2_with fail
          refine (C _).mono ?_
          rintro e w1 ⟨rfl, b1⟩
          have B1 := bel_trans hbw b1
          go_wp2_with fail
          go_ret2
          refine ⟨_, by rw [HE.out]; rfl, B1.alloc B1.size _, ?_⟩
          rw [HE.out]
          exact World.ownsRow_nil _ _ _ _
        · have hm2 := Decidable.not_not.1 hm
          rw [oneP_ok s _ hm2.1 hm2.2] at C
          obtain ⟨⟨x0, x1, x2, x3⟩, hx⟩ : ∃ x, tagE (keyL s) (y0, y1, y2, y3) = x := ⟨_, rfl⟩
          rw [hx] at C
          have HA' : Hid (allMay (l.take (k + 1)) ∧ (mayK s ∨ l.take (k + 1) = [])) := ⟨allMay_next l k hk1 HA.out.1 (by rw [HY.out]; exact hm2.1), Or.inl hm2.2⟩
          have HV : Hid (recV evV (tagsL (keyL s) (l.take (k + 1))) = recV evV (tagsL (keyL s) (l.take k)) ++ [.int .i64 x0, .int .i64 x1, .string ⟨x2.toArray⟩, .string ⟨x3.toArray⟩]) := by
            show _ = _
            rw [tagsL_next _ l k hk1, recV_snoc, HY.out, hx]
            rfl
          obtain ⟨D, hD⟩ : ∃ D, tagsL (keyL s) (l.take k) = D := ⟨_, rfl⟩
          rw [hD] at hrow HV
          clear hm hm2 hx hD
          go_wp2_with fail
          refine (C _).mono ?_
          rintro e w1 ⟨rfl, b1⟩
          have B1 := bel_trans hbw b1
          have hrow1 := owns_below hrow b1
          have B1' := B1.alloc B1.size (.cells #[.int .i64 x0, .int .i64 x1, .string ⟨x2.toArray⟩, .string ⟨x3.toArray⟩] 23)
          go_wp2_with (at_builtin; refine wpList_append_own _ rfl _ _ 37 rfl w.heap.size 23 i0 (.agg #[.int .i64 0, .int .i64 0, .string ByteArray.empty, .string ByteArray.empty]) 4 48 Tryd.underlying37 hi hz0 hz1 hz2 rfl (by decide) _ _ _ rfl ((hrow1.alloc _).alloc _) ⟨w1.heap.size + 1, 0, none⟩ 1 1 [.int .i64 x0, .int .i64 x1, .string ⟨x2.toArray⟩, .string ⟨x3.toArray⟩] rfl rfl ?d1 ?d2 ?d3 ?d4 ?d5 ?_)
          case d1 =>
            intro j u hj
            match j, hj with
            | 0, hj => simp at hj; subst hj; simp [Addr.add]
            | 1, hj => simp at hj; subst hj; simp [Addr.add]
            | 2, hj => simp at hj; subst hj; simp [Addr.add]
            | 3, hj => simp at hj; subst hj; simp [Addr.add]
          case d2 => exact evV_one (x0, x1, x2, x3)
          case d3 => unfold maxLen; omega
          case d4 => omega
          case d5 => have := B1.size; simp; omega
          intro v' w2 hown2 hgrow2 _
          have B2 : Below w.heap.size w w2 := (B1'.alloc B1'.size _).grown hgrow2 (by have := B1'.size; simp at this ⊢; omega) (fun j hj => (hrow1.lt j hj).1)
          go_wp2_with fail
          go_roundw
          case rel => exact ⟨k + 1, by omega, by first | go_num | simp, HA', B2, by rw [HV.out]; exact hown2⟩
          case measure => simp [intOf]; omega
      · obtain rfl : k = n := by omega
        have HF : Hid (l.take k = l) := List.take_of_length_le (by have := HN.out; omega)
        have HE : Hid (allP s l = (tagsL (keyL s) l, 0)) := by
          have := HA.out
          rw [HF.out] at this
          exact allP_ok s l (by have := HN.out; omega) this.1 this.2
        have HG : Hid ((tagsL (keyL s) l).length = k) := by
          show _ = _
          rw [tags_len, HN.out]
        go_wp2_with fail
        go_ret2
        refine ⟨_, by rw [HE.out]; rfl, hbw, ?_⟩
        rw [HE.out]
        show World.ownsRow _ _ _ _ _ (tagsL (keyL s) l).length _
        rw [HG.out]
        rw [HF.out] at hrow
        exact hrow
end Go.Proofs.YtihggfkenhkglaaDoor
