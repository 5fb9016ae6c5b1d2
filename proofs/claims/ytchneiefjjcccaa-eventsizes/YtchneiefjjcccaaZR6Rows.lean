/-
  What cartoucheref06.Leaves and Back answer.
-/
import Derived.Test.YtchneiefjjcccaaZEvent2
import Derived.Test.YtchneiefjjcccaaZR6Take
namespace Go.Proofs.Ytchneiefjjcccaa
set_option maxRecDepth 100000
open Go.RowKit
set_option linter.unusedVariables false
attribute [local go_sem] ba_size
theorem ev_info : (Try.prog.info? 23).map (fun i => (i.zero, i.size, i.bytes)) = some (some (.agg #[.int .i64 0, .int .i64 0, .string ByteArray.empty, .string ByteArray.empty]), 4, 48) := by kernel_rfl
set_option maxHeartbeats 2000000 in
theorem rleaves_any (h : List Ev) (v : Value) (w : World) (hT : IsEvs w v h) :
    Calls Try.prog 18 #[v] w fun e w' => TxRes w (leavesE h) e w' := by
  obtain ⟨i0, hi, hz0, hz1, hz2⟩ := info_parts str_info
  obtain ⟨a, cap, rfl, h1, h2, h3, HC⟩ := hT.some_at
  obtain ⟨n, hn⟩ : ∃ n, h.length = n := ⟨_, rfl⟩
  have HN : Hid (h.length = n) := hn
  rw [hn] at h1 h3 ⊢
  clear hT hn
  by_cases hbig : 256 < n
  · rw [leavesE_big h (by have := HN.out; omega)]
    have j : (256 : Int) < (n : Int) := by omega
    go_enter Try.func18, Try.ntmps18
    go_wp2_with fail
    go_ret2
    exact ⟨_, rfl, Below.refl _ _, World.ownsRow_nil _ _ _ _⟩
  · have j : ¬ (256 : Int) < (n : Int) := by omega
    go_enter Try.func18, Try.ntmps18
    go_wp2_with fail
    go_loopw [4, 5] (fun r i wr => ∃ k : Nat, k ≤ n ∧ i = .int .i64 k ∧ Hid (allMay (h.take k)) ∧ Below w.heap.size w wr ∧ wr.ownsRow w.heap.size 9 1 r k (strV ((h.take k).map bytE))) (fun _ i _ => n - (intOf i).toNat)
    case atStart => exact ⟨0, Nat.zero_le _, rfl, (by intro x hx; simp at hx), Below.refl _ _, World.ownsRow_nil _ _ _ _⟩
    case round =>
      obtain ⟨k, hk, rfl, HA, hbw, hrow⟩ := hrel
      by_cases hlt : k < n
      · have hk1 : k < h.length := by have := HN.out; omega
        obtain ⟨bb, off, rfl, hblt, hcell⟩ := HC.out k hk1
        obtain ⟨p0, p1, p2, p3⟩ := IsEvs.at hk1 hcell
        have q0 := (hbw.cell (p := ⟨bb, off + k * 4, none⟩) hblt).trans p0
        have q1 := (hbw.cell (p := ⟨bb, off + k * 4 + 1, none⟩) hblt).trans p1
        have q2 := (hbw.cell (p := ⟨bb, off + k * 4 + 2, none⟩) hblt).trans p2
        have q3 := (hbw.cell (p := ⟨bb, off + k * 4 + 3, none⟩) hblt).trans p3
        clear p0 p1 p2 p3 hcell
        obtain ⟨⟨x0, x1, x2, x3⟩, hx⟩ : ∃ x, h[k] = x := ⟨_, rfl⟩
        have HX : Hid (h[k] = (x0, x1, x2, x3)) := hx
        rw [hx] at q0 q1 q2 q3
        simp only at q0 q1 q2 q3
        clear hx
        have C := fun W => rbytes6_any x0 x1 x2 x3 W
        by_cases hm : mayE (x0, x1, x2, x3)
        · rw [bytesE_ok _ hm] at C
          have HB : Hid (bytE h[k] = bytE (x0, x1, x2, x3)) := by show _ = _; rw [HX.out]
          have HA' : Hid (allMay (h.take (k + 1))) := allMay_next h k hk1 HA.out (by rw [HX.out]; exact hm)
          obtain ⟨s, hs⟩ : ∃ s, bytE (x0, x1, x2, x3) = s := ⟨_, rfl⟩
          rw [hs] at C HB
          have HV : Hid (strV ((h.take (k + 1)).map bytE) = strV ((h.take k).map bytE) ++ [.string ⟨s.toArray⟩]) := by
            show _ = _
            rw [List.take_succ_eq_append_getElem hk1, List.map_append, List.map_cons, List.map_nil, strV_snoc, HB.out]
          clear hs hm
          go_wp2_with fail
          refine (C _).mono ?_
          rintro e w1 ⟨rfl, b1⟩
          have B1 := bel_trans hbw b1
          have hrow1 := owns_below hrow b1
          go_wp2_with (at_builtin; refine wpList_append_own _ rfl _ _ 37 rfl w.heap.size 9 i0 (.string ByteArray.empty) 1 16 Try.underlying37 hi hz0 hz1 hz2 rfl (by decide) _ _ _ rfl (hrow1.alloc _) ⟨w1.heap.size, 0, none⟩ 1 1 [.string ⟨s.toArray⟩] rfl rfl ?d1 ?d2 ?d3 ?d4 ?d5 ?_)
          case d1 =>
            intro j u hj
            match j, hj with
            | 0, hj => simp at hj; subst hj; simp [Addr.add]
          case d2 => intro u hu; simp at hu; subst hu; rfl
          case d3 => unfold maxLen; omega
          case d4 => omega
          case d5 => have := B1.size; simp; omega
          intro v' w2 hown2 hgrow2 _
          have B2 : Below w.heap.size w w2 := (B1.alloc B1.size _).grown hgrow2 (by have := B1.size; simp; omega) (fun j hj => (hrow1.lt j hj).1)
          go_wp2_with fail
          go_roundw
          case rel => exact ⟨k + 1, by omega, by first | go_num | simp, HA', B2, by rw [HV.out, List.map_take]; exact hown2⟩
          case measure => simp [intOf]; omega
        · rw [bytesE_no _ hm] at C
          have HE : Hid (leavesE h = ([], 1)) := leavesE_bad h (by have := HN.out; omega) k hk1 (by rw [HX.out]; exact hm)
          clear hm
          go_wp2_with fail
          refine (C _).mono ?_
          rintro e w1 ⟨rfl, b1⟩
          go_wp2_with fail
          go_ret2
          refine ⟨_, by rw [HE.out]; rfl, bel_trans hbw b1, ?_⟩
          rw [HE.out]
          exact World.ownsRow_nil _ _ _ _
      · obtain rfl : k = n := by omega
        have HE : Hid (leavesE h = (h.map bytE, 0)) := by
          have := HA.out
          rw [List.take_of_length_le (by have := HN.out; omega)] at this
          exact leavesE_ok h (by have := HN.out; omega) this
        have HF : Hid (h.take k = h) := List.take_of_length_le (by have := HN.out; omega)
        go_wp2_with fail
        go_ret2
        refine ⟨_, by rw [HE.out]; rfl, hbw, ?_⟩
        rw [HE.out]
        show World.ownsRow _ _ _ _ _ (h.map bytE).length _
        rw [List.length_map, HN.out]
        rw [HF.out] at hrow
        exact hrow
set_option maxHeartbeats 2000000 in
theorem rback_any (l : List (List UInt8)) (v : Value) (w : World) (hT : IsTxt w v l) (hB : ∀ s ∈ l, s.length ≤ 9223372036854775807) :
    Calls Try.prog 20 #[v] w fun e w' => EvRes 23 w (backE l) e w' := by
  obtain ⟨i0, hi, hz0, hz1, hz2⟩ := info_parts ev_info
  obtain ⟨a, cap, rfl, h1, h2, h3, HC⟩ := hT.some_at
  obtain ⟨n, hn⟩ : ∃ n, l.length = n := ⟨_, rfl⟩
  have HN : Hid (l.length = n) := hn
  rw [hn] at h1 h3 ⊢
  clear hT hn
  by_cases hbig : 256 < n
  · rw [backE_big l (by have := HN.out; omega)]
    have j : (256 : Int) < (n : Int) := by omega
    go_enter Try.func20, Try.ntmps20
    go_wp2_with fail
    go_ret2
    exact ⟨_, rfl, Below.refl _ _, World.ownsRow_nil _ _ _ _⟩
  · have j : ¬ (256 : Int) < (n : Int) := by omega
    go_enter Try.func20, Try.ntmps20
    go_wp2_with fail
    go_loopw [4, 5] (fun r i wr => ∃ k : Nat, k ≤ n ∧ i = .int .i64 k ∧ Hid (allTake (l.take k)) ∧ Below w.heap.size w wr ∧ wr.ownsRow w.heap.size 23 4 r k (recV evV ((l.take k).filterMap takeE))) (fun _ i _ => n - (intOf i).toNat)
    case atStart => exact ⟨0, Nat.zero_le _, rfl, (by intro x hx; simp at hx), Below.refl _ _, World.ownsRow_nil _ _ _ _⟩
    case round =>
      obtain ⟨k, hk, rfl, HA, hbw, hrow⟩ := hrel
      by_cases hlt : k < n
      · have hk1 : k < l.length := by have := HN.out; omega
        obtain ⟨bb, off, rfl, hblt, hcell⟩ := HC.out k hk1
        have q0 := (hbw.cell (p := ⟨bb, off + k, none⟩) hblt).trans hcell
        clear hcell
        have C := fun W => rtake6_any l[k] (hB _ (List.getElem_mem hk1)) W
        unfold takeER at C
        obtain ⟨s, hs⟩ : ∃ s, l[k] = s := ⟨_, rfl⟩
        have HS : Hid (l[k] = s) := hs
        rw [hs] at q0 C
        clear hs
        rcases hm : takeE s with _ | ⟨x0, x1, x2, x3⟩
        · rw [hm] at C
          have HE : Hid (backE l = ([], 3)) := backE_bad l (by have := HN.out; omega) k hk1 (by rw [HS.out]; exact hm)
          clear hm
          go_wp2_with fail
          refine (C _).mono ?_
          rintro e w1 ⟨rfl, b1⟩
          have B1 := bel_trans hbw b1
          go_wp2_with fail
          go_ret2
          refine ⟨_, by rw [HE.out]; rfl, B1.alloc B1.size _, ?_⟩
          rw [HE.out]
          exact World.ownsRow_nil _ _ _ _
        · rw [hm] at C
          obtain ⟨A1, A2⟩ := allTake_next l k hk1 HA.out (x0, x1, x2, x3) (by rw [HS.out]; exact hm)
          have HA' : Hid (allTake (l.take (k + 1))) := A1
          have HV : Hid (recV evV ((l.take (k + 1)).filterMap takeE) = recV evV ((l.take k).filterMap takeE) ++ [.int .i64 x0, .int .i64 x1, .string ⟨x2.toArray⟩, .string ⟨x3.toArray⟩]) := by
            show _ = _
            rw [A2, recV_snoc]
            rfl
          obtain ⟨D, hD⟩ : ∃ D, (l.take k).filterMap takeE = D := ⟨_, rfl⟩
          rw [hD] at hrow HV
          clear hm A1 A2 hD
          go_wp2_with fail
          refine (C _).mono ?_
          rintro e w1 ⟨rfl, b1⟩
          have B1 := bel_trans hbw b1
          have hrow1 := owns_below hrow b1
          have B1' := B1.alloc B1.size (.cells #[.int .i64 x0, .int .i64 x1, .string ⟨x2.toArray⟩, .string ⟨x3.toArray⟩] 23)
          go_wp2_with (at_builtin; refine wpList_append_own _ rfl _ _ 36 rfl w.heap.size 23 i0 (.agg #[.int .i64 0, .int .i64 0, .string ByteArray.empty, .string ByteArray.empty]) 4 48 Try.underlying36 hi hz0 hz1 hz2 rfl (by decide) _ _ _ rfl ((hrow1.alloc _).alloc _) ⟨w1.heap.size + 1, 0, none⟩ 1 1 [.int .i64 x0, .int .i64 x1, .string ⟨x2.toArray⟩, .string ⟨x3.toArray⟩] rfl rfl ?d1 ?d2 ?d3 ?d4 ?d5 ?_)
          case d1 =>
            intro j u hj
            match j, hj with
            | 0, hj => simp at hj; subst hj; simp [Addr.add]
            | 1, hj => simp at hj; subst hj; simp [Addr.add]
            | 2, hj => simp at hj; subst hj; simp [Addr.add]
            | 3, hj => simp at hj; subst hj; simp [Addr.add]
          case d2 => exact evV_one (x0, x1, x2, x3)
          case d3 => unfold maxLen; omega
          case d4 => omega
          case d5 => have := B1.size; simp; omega
          intro v' w2 hown2 hgrow2 _
          have B2 : Below w.heap.size w w2 := (B1'.alloc B1'.size _).grown hgrow2 (by have := B1'.size; simp at this ⊢; omega) (fun j hj => (hrow1.lt j hj).1)
          go_wp2_with fail
          go_roundw
          case rel => exact ⟨k + 1, by omega, by first | go_num | simp, HA', B2, by rw [HV.out]; exact hown2⟩
          case measure => simp [intOf]; omega
      · obtain rfl : k = n := by omega
        have HF : Hid (l.take k = l) := List.take_of_length_le (by have := HN.out; omega)
        have HE : Hid (backE l = (l.filterMap takeE, 0)) := by
          have := HA.out
          rw [HF.out] at this
          exact backE_ok l (by have := HN.out; omega) this
        have HG : Hid ((l.filterMap takeE).length = k) := by
          have := HA.out
          rw [HF.out] at this
          show _ = _
          rw [allTake_len l this, HN.out]
        go_wp2_with fail
        go_ret2
        refine ⟨_, by rw [HE.out]; rfl, hbw, ?_⟩
        rw [HE.out]
        show World.ownsRow _ _ _ _ _ (l.filterMap takeE).length _
        rw [HG.out]
        rw [HF.out] at hrow
        exact hrow
end Go.Proofs.Ytchneiefjjcccaa
