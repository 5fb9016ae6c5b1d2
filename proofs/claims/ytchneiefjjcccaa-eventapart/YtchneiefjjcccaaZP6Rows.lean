/-
  What event.each (of events, of texts), Leaves and Back answer.
-/
import Derived.Test.YtchneiefjjcccaaZEvent2
import Derived.Test.YtchneiefjjcccaaZP6Bytes
import Derived.Test.YtchneiefjjcccaaZP6Take
import Derived.Test.YtchneiefjjcccaaZR6Rows
import Derived.OwnWalk
namespace Go.Proofs.Ytchneiefjjcccaa
set_option maxRecDepth 100000
open Go.RowKit
set_option linter.unusedVariables false
attribute [local go_sem] ba_size
abbrev Ev0 : Ev := (0, 0, [], [])
theorem made_txt (n : Nat) : (madeCells #[.string ByteArray.empty] n).toList = strV (List.replicate n []) := by
  apply List.ext_getElem?
  intro j
  by_cases hj : j < n
  · simp [madeCells, hj, strV, Nat.mod_one]; rfl
  · simp [madeCells, hj, strV]
theorem made_evs (n : Nat) : (madeCells #[.int .i64 0, .int .i64 0, .string ByteArray.empty, .string ByteArray.empty] (n * 4)).toList = recV evV (List.replicate n Ev0) := by
  apply List.ext_getElem?
  intro j
  by_cases hj : j < n * 4
  · have g := recV_get evV_len (List.replicate n Ev0) (j / 4) (by simp; omega) (j % 4) (by omega)
    rw [show j / 4 * 4 + j % 4 = j by omega] at g
    rw [g, List.getElem_replicate]
    have h4 : j % 4 = 0 ∨ j % 4 = 1 ∨ j % 4 = 2 ∨ j % 4 = 3 := by omega
    rcases h4 with h4 | h4 | h4 | h4 <;> rw [h4] <;> simp [madeCells, hj, h4, evV] <;> rfl
  · have l := recV_length evV_len (List.replicate n Ev0)
    rw [List.length_replicate] at l
    rw [List.getElem?_eq_none (l := recV evV _) (by rw [l]; omega)]
    simp [madeCells, hj]
theorem strV_put (D R : List (List UInt8)) (z s : List UInt8) : (strV (D ++ z :: R)).set D.length (.string ⟨s.toArray⟩) = strV (D ++ s :: R) := by
  simp [strV]
theorem evs_put (D R : List Ev) (z x : Ev) : ((((recV evV (D ++ z :: R)).set (D.length * 4) (.int .i64 x.1)).set (D.length * 4 + 1) (.int .i64 x.2.1)).set (D.length * 4 + 2) (.string ⟨x.2.2.1.toArray⟩)).set (D.length * 4 + 3) (.string ⟨x.2.2.2.toArray⟩) = recV evV (D ++ x :: R) := by
  have l := recV_length evV_len D
  have c : ∀ y, recV evV (D ++ y :: R) = recV evV D ++ (evV y ++ recV evV R) := fun y => by rw [recV_append, show y :: R = [y] ++ R from rfl, recV_append]; simp [recV]
  rw [c, c, List.set_append_right _ _ (by omega), List.set_append_right _ _ (by omega), List.set_append_right _ _ (by omega), List.set_append_right _ _ (by omega), l, show D.length * 4 - D.length * 4 = 0 by omega, show D.length * 4 + 1 - D.length * 4 = 1 by omega, show D.length * 4 + 2 - D.length * 4 = 2 by omega, show D.length * 4 + 3 - D.length * 4 = 3 by omega]
  rfl
theorem rep_drop {α : Type} (n k : Nat) (z : α) (h : k < n) : List.replicate (n - k) z = z :: List.replicate (n - (k + 1)) z := by
  rw [show n - k = (n - (k + 1)) + 1 by omega, List.replicate_succ]
theorem strV_z (D R : List (List UInt8)) (z : List UInt8) : (strV (D ++ z :: R))[D.length]? = some (.string ⟨z.toArray⟩) := by simp [strV]
theorem evs_z (D R : List Ev) (z : Ev) (j : Nat) (hj : j < 4) : (recV evV (D ++ z :: R))[D.length * 4 + j]? = (evV z)[j]? := by
  have g := recV_get evV_len (D ++ z :: R) D.length (by simp) j hj
  rw [g]
  simp
set_option maxHeartbeats 2000000 in
theorem peachL_any (h : List Ev) (v : Value) (w : World) (hT : IsEvs w v h) :
    Calls Try.prog 31 #[v, .func (.func 11) #[] #[]] w fun e w' => TxRes w (leavesE h) e w' := by
  obtain ⟨i0, hi, hz0, hz1, hz2⟩ := info_parts str_info
  obtain ⟨a, cap, rfl, h1, h2, h3, HC⟩ := hT.some_at
  obtain ⟨n, hn⟩ : ∃ n, h.length = n := ⟨_, rfl⟩
  have HN : Hid (h.length = n) := hn
  rw [hn] at h1 h3 ⊢
  clear hT hn
  by_cases hbig : 256 < n
  · rw [leavesE_big h (by have := HN.out; omega)]
    have j : (256 : Int) < (n : Int) := by omega
    go_enter Try.func31, Try.ntmps31
    go_wp2_with fail
    go_ret2
    exact ⟨_, rfl, Below.refl _ _, World.ownsRow_nil _ _ _ _⟩
  · have j : ¬ (256 : Int) < (n : Int) := by omega
    go_enter Try.func31, Try.ntmps31
    go_wp2_with (at_make; refine wpList_make_full _ rfl _ _ 37 rfl w.heap.size 9 i0 (.string ByteArray.empty) 1 Try.underlying37 hi hz0 hz1 .i64 .i64 _ _ n rfl rfl rfl rfl ?c1 ?c2 ?c3 ?_)
    case c1 => omega
    case c2 => unfold maxLen; omega
    intro w1 hown1 hgr1
    have hB1 : Below w.heap.size w w1 := (Below.refl _ w).grown hgr1 (Nat.le_refl _) (fun k h => by cases h)
    have hrow1 : w1.ownsRow w.heap.size 9 1 (.slice (some ⟨w.heap.size, 0, none⟩) n n) n (strV ([] ++ List.replicate (n - 0) [])) := by
      have e := made_txt n
      have hown1' : w1.ownsRow w.heap.size 9 1 (.slice (some ⟨w.heap.size, 0, none⟩) n n) n (madeCells #[.string ByteArray.empty] n).toList := hown1
      rw [e] at hown1'
      exact hown1'
    clear hown1 hgr1
    go_wp2_with fail
    go_loopw [17] (fun i wr => ∃ (k : Nat), k ≤ n ∧ i = .int .i64 k ∧ Hid (allMay (h.take k)) ∧ Below w.heap.size w wr ∧ wr.ownsRow w.heap.size 9 1 (.slice (some ⟨w.heap.size, 0, none⟩) n n) n (strV ((h.take k).map bytE ++ List.replicate (n - k) []))) (fun i _ => n - (intOf i).toNat)
    case atStart => exact ⟨0, Nat.zero_le _, rfl, (by intro x hx; simp at hx), hB1, hrow1⟩
    case round =>
      obtain ⟨k, hk, rfl, HA, hbw, hrow⟩ := hrel
      by_cases hlt : k < n
      · have hk1 : k < h.length := by have := HN.out; omega
        obtain ⟨bb, off, rfl, hblt, hcell⟩ := HC.out k hk1
        obtain ⟨p0, p1, p2, p3⟩ := IsEvs.at hk1 hcell
        have q0 := (hbw.cell (p := ⟨bb, off + k * 4, none⟩) hblt).trans p0
        have q1 := (hbw.cell (p := ⟨bb, off + k * 4 + 1, none⟩) hblt).trans p1
        have q2 := (hbw.cell (p := ⟨bb, off + k * 4 + 2, none⟩) hblt).trans p2
        have q3 := (hbw.cell (p := ⟨bb, off + k * 4 + 3, none⟩) hblt).trans p3
        clear p0 p1 p2 p3 hcell
        obtain ⟨⟨x0, x1, x2, x3⟩, hx⟩ : ∃ x, h[k] = x := ⟨_, rfl⟩
        have HX : Hid (h[k] = (x0, x1, x2, x3)) := hx
        rw [hx] at q0 q1 q2 q3
        simp only at q0 q1 q2 q3
        clear hx
        have C := fun W => pbytes6_any x0 x1 x2 x3 W
        have HD : Hid (((h.take k).map bytE).length = k) := by show _ = _; simp; omega
        rw [rep_drop n k _ hlt] at hrow
        have hz := strV_z ((h.take k).map bytE) (List.replicate (n - (k + 1)) []) []
        rw [HD.out] at hz
        by_cases hm : mayE (x0, x1, x2, x3)
        · rw [bytesE_ok _ hm] at C
          have HB : Hid (bytE h[k] = bytE (x0, x1, x2, x3)) := by show _ = _; rw [HX.out]
          have HA' : Hid (allMay (h.take (k + 1))) := allMay_next h k hk1 HA.out (by rw [HX.out]; exact hm)
          obtain ⟨s, hs⟩ : ∃ s, bytE (x0, x1, x2, x3) = s := ⟨_, rfl⟩
          rw [hs] at C HB
          have HV : Hid ((strV ((h.take k).map bytE ++ [] :: List.replicate (n - (k + 1)) [])).set k (.string ⟨s.toArray⟩) = strV ((h.take (k + 1)).map bytE ++ List.replicate (n - (k + 1)) [])) := by
            show _ = _
            have e := strV_put ((h.take k).map bytE) (List.replicate (n - (k + 1)) []) [] s
            rw [HD.out] at e
            rw [e, List.take_succ_eq_append_getElem hk1, List.map_append, List.map_cons, List.map_nil, HB.out]
            simp
          clear hs hm
          go_wp2_with fail
          refine (C _).mono ?_
          rintro e w3 ⟨rfl, b3⟩
          have hrow3 := owns_below hrow b3
          have f0 : w3.cell? ⟨w.heap.size, k, none⟩ = some (.string ⟨#[]⟩) := (hrow3.cellAt k (by omega)).trans hz
          have f1 := hrow3.frozenAt k
          have B3 := bel_trans hbw b3
          have hs4 := (hrow3.stored k (.string ⟨s.toArray⟩)).1
          rw [HV.out] at hs4
          clear hrow hrow3 hz
          go_wp2_with fail
          go_roundw
          case rel => exact ⟨k + 1, by omega, by first | go_num | simp, HA', B3.setCell (Nat.le_refl _) _, hs4⟩
          case measure => simp [intOf]; omega
        · rw [bytesE_no _ hm] at C
          have HE : Hid (leavesE h = ([], 1)) := leavesE_bad h (by have := HN.out; omega) k hk1 (by rw [HX.out]; exact hm)
          clear hm
          go_wp2_with fail
          refine (C _).mono ?_
          rintro e w3 ⟨rfl, b3⟩
          have hrow3 := owns_below hrow b3
          have f0 : w3.cell? ⟨w.heap.size, k, none⟩ = some (.string ⟨#[]⟩) := (hrow3.cellAt k (by omega)).trans hz
          have f1 := hrow3.frozenAt k
          have B3 := bel_trans hbw b3
          clear hrow hrow3 hz
          go_wp2_with fail
          go_ret2
          refine ⟨_, by rw [HE.out]; rfl, B3.setCell (Nat.le_refl _) _, ?_⟩
          rw [HE.out]
          exact World.ownsRow_nil _ _ _ _
      · obtain rfl : k = n := by omega
        have HE : Hid (leavesE h = (h.map bytE, 0)) := by
          have := HA.out
          rw [List.take_of_length_le (by have := HN.out; omega)] at this
          exact leavesE_ok h (by have := HN.out; omega) this
        have HF : Hid (h.take k = h) := List.take_of_length_le (by have := HN.out; omega)
        go_wp2_with fail
        go_ret2
        refine ⟨_, by rw [HE.out]; rfl, hbw, ?_⟩
        rw [HE.out]
        show World.ownsRow _ _ _ _ _ (h.map bytE).length _
        rw [List.length_map, HN.out]
        rw [HF.out, show k - k = 0 by omega, List.replicate_zero, List.append_nil] at hrow
        exact hrow
set_option maxHeartbeats 2000000 in
theorem peachB_any (l : List (List UInt8)) (v : Value) (w : World) (hT : IsTxt w v l) (hB : ∀ s ∈ l, s.length ≤ 9223372036854770000) :
    Calls Try.prog 32 #[v, .func (.func 13) #[] #[]] w fun e w' => EvRes 23 w (backE l) e w' := by
  obtain ⟨i0, hi, hz0, hz1, hz2⟩ := info_parts ev_info
  obtain ⟨a, cap, rfl, h1, h2, h3, HC⟩ := hT.some_at
  obtain ⟨n, hn⟩ : ∃ n, l.length = n := ⟨_, rfl⟩
  have HN : Hid (l.length = n) := hn
  rw [hn] at h1 h3 ⊢
  clear hT hn
  by_cases hbig : 256 < n
  · rw [backE_big l (by have := HN.out; omega)]
    have j : (256 : Int) < (n : Int) := by omega
    go_enter Try.func32, Try.ntmps32
    go_wp2_with fail
    go_ret2
    exact ⟨_, rfl, Below.refl _ _, World.ownsRow_nil _ _ _ _⟩
  · have j : ¬ (256 : Int) < (n : Int) := by omega
    go_enter Try.func32, Try.ntmps32
    go_wp2_with (at_make; refine wpList_make_full _ rfl _ _ 36 rfl w.heap.size 23 i0 (.agg #[.int .i64 0, .int .i64 0, .string ByteArray.empty, .string ByteArray.empty]) 4 Try.underlying36 hi hz0 hz1 .i64 .i64 _ _ n rfl rfl rfl rfl ?c1 ?c2 ?c3 ?_)
    case c1 => omega
    case c2 => unfold maxLen; omega
    intro w1 hown1 hgr1
    have hB1 : Below w.heap.size w w1 := (Below.refl _ w).grown hgr1 (Nat.le_refl _) (fun k h => by cases h)
    have hrow1 : w1.ownsRow w.heap.size 23 4 (.slice (some ⟨w.heap.size, 0, none⟩) n n) n (recV evV ([] ++ List.replicate (n - 0) Ev0)) := by
      have e := made_evs n
      have hown1' : w1.ownsRow w.heap.size 23 4 (.slice (some ⟨w.heap.size, 0, none⟩) n n) n (madeCells #[.int .i64 0, .int .i64 0, .string ByteArray.empty, .string ByteArray.empty] (n * 4)).toList := hown1
      rw [e] at hown1'
      exact hown1'
    clear hown1 hgr1
    go_wp2_with fail
    go_loopw [17] (fun i wr => ∃ (k : Nat), k ≤ n ∧ i = .int .i64 k ∧ Hid (allTake (l.take k)) ∧ Below w.heap.size w wr ∧ wr.ownsRow w.heap.size 23 4 (.slice (some ⟨w.heap.size, 0, none⟩) n n) n (recV evV ((l.take k).filterMap takeE ++ List.replicate (n - k) Ev0))) (fun i _ => n - (intOf i).toNat)
    case atStart => exact ⟨0, Nat.zero_le _, rfl, (by intro x hx; simp at hx), hB1, hrow1⟩
    case round =>
      obtain ⟨k, hk, rfl, HA, hbw, hrow⟩ := hrel
      by_cases hlt : k < n
      · have hk1 : k < l.length := by have := HN.out; omega
        obtain ⟨bb, off, rfl, hblt, hcell⟩ := HC.out k hk1
        have q0 := (hbw.cell (p := ⟨bb, off + k, none⟩) hblt).trans hcell
        clear hcell
        have C := fun W => ptake6_any l[k] (hB _ (List.getElem_mem hk1)) W
        unfold takeER at C
        obtain ⟨s, hs⟩ : ∃ s, l[k] = s := ⟨_, rfl⟩
        have HS : Hid (l[k] = s) := hs
        rw [hs] at q0 C
        clear hs
        have HD : Hid (((l.take k).filterMap takeE).length = k) := by show _ = _; rw [allTake_len _ HA.out]; simp; omega
        rw [rep_drop n k _ hlt] at hrow
        have hz0 := evs_z ((l.take k).filterMap takeE) (List.replicate (n - (k + 1)) Ev0) Ev0 0 (by omega)
        have hz1 := evs_z ((l.take k).filterMap takeE) (List.replicate (n - (k + 1)) Ev0) Ev0 1 (by omega)
        have hz2 := evs_z ((l.take k).filterMap takeE) (List.replicate (n - (k + 1)) Ev0) Ev0 2 (by omega)
        have hz3 := evs_z ((l.take k).filterMap takeE) (List.replicate (n - (k + 1)) Ev0) Ev0 3 (by omega)
        rw [HD.out] at hz0 hz1 hz2 hz3
        rcases hm : takeE s with _ | ⟨x0, x1, x2, x3⟩
        · rw [hm] at C
          have HE : Hid (backE l = ([], 3)) := backE_bad l (by have := HN.out; omega) k hk1 (by rw [HS.out]; exact hm)
          clear hm
          go_wp2_with fail
          refine (C _).mono ?_
          rintro e w3 ⟨rfl, b3⟩
          have hrow3 := owns_below hrow b3
          have f0 : w3.cell? ⟨w.heap.size, k * 4, none⟩ = some (.int .i64 0) := (hrow3.cellAt (k * 4) (by omega)).trans hz0
          have f1 : w3.cell? ⟨w.heap.size, k * 4 + 1, none⟩ = some (.int .i64 0) := (hrow3.cellAt (k * 4 + 1) (by omega)).trans hz1
          have f2 : w3.cell? ⟨w.heap.size, k * 4 + 2, none⟩ = some (.string ⟨#[]⟩) := (hrow3.cellAt (k * 4 + 2) (by omega)).trans hz2
          have f3 : w3.cell? ⟨w.heap.size, k * 4 + 3, none⟩ = some (.string ⟨#[]⟩) := (hrow3.cellAt (k * 4 + 3) (by omega)).trans hz3
          have g0 := hrow3.frozenAt (k * 4)
          have g1 := hrow3.frozenAt (k * 4 + 1)
          have g2 := hrow3.frozenAt (k * 4 + 2)
          have g3 := hrow3.frozenAt (k * 4 + 3)
          have B3 := bel_trans hbw b3
          clear hrow hrow3 hz0 hz1 hz2 hz3
          go_wp2_with fail
          go_ret2
          refine ⟨_, by rw [HE.out]; rfl, (((B3.setCell (Nat.le_refl _) _).setCell (Nat.le_refl _) _).setCell (Nat.le_refl _) _).setCell (Nat.le_refl _) _, ?_⟩
          rw [HE.out]
          exact World.ownsRow_nil _ _ _ _
        · rw [hm] at C
          obtain ⟨A1, A2⟩ := allTake_next l k hk1 HA.out (x0, x1, x2, x3) (by rw [HS.out]; exact hm)
          have HA' : Hid (allTake (l.take (k + 1))) := A1
          have HV : Hid (((((recV evV ((l.take k).filterMap takeE ++ Ev0 :: List.replicate (n - (k + 1)) Ev0)).set (k * 4) (.int .i64 x0)).set (k * 4 + 1) (.int .i64 x1)).set (k * 4 + 2) (.string ⟨x2.toArray⟩)).set (k * 4 + 3) (.string ⟨x3.toArray⟩) = recV evV ((l.take (k + 1)).filterMap takeE ++ List.replicate (n - (k + 1)) Ev0)) := by
            show _ = _
            have e := evs_put ((l.take k).filterMap takeE) (List.replicate (n - (k + 1)) Ev0) Ev0 (x0, x1, x2, x3)
            rw [HD.out] at e
            rw [A2, List.append_assoc]
            exact e
          clear hm A1 A2
          go_wp2_with fail
          refine (C _).mono ?_
          rintro e w3 ⟨rfl, b3⟩
          have hrow3 := owns_below hrow b3
          have f0 : w3.cell? ⟨w.heap.size, k * 4, none⟩ = some (.int .i64 0) := (hrow3.cellAt (k * 4) (by omega)).trans hz0
          have f1 : w3.cell? ⟨w.heap.size, k * 4 + 1, none⟩ = some (.int .i64 0) := (hrow3.cellAt (k * 4 + 1) (by omega)).trans hz1
          have f2 : w3.cell? ⟨w.heap.size, k * 4 + 2, none⟩ = some (.string ⟨#[]⟩) := (hrow3.cellAt (k * 4 + 2) (by omega)).trans hz2
          have f3 : w3.cell? ⟨w.heap.size, k * 4 + 3, none⟩ = some (.string ⟨#[]⟩) := (hrow3.cellAt (k * 4 + 3) (by omega)).trans hz3
          have g0 := hrow3.frozenAt (k * 4)
          have g1 := hrow3.frozenAt (k * 4 + 1)
          have g2 := hrow3.frozenAt (k * 4 + 2)
          have g3 := hrow3.frozenAt (k * 4 + 3)
          have B3 := bel_trans hbw b3
          have hs := ((((hrow3.stored (k * 4) (.int .i64 x0)).1.stored (k * 4 + 1) (.int .i64 x1)).1.stored (k * 4 + 2) (.string ⟨x2.toArray⟩)).1.stored (k * 4 + 3) (.string ⟨x3.toArray⟩)).1
          rw [HV.out] at hs
          have B4 := (((B3.setCell (p := ⟨w.heap.size, k * 4, none⟩) (Nat.le_refl _) (.int .i64 x0)).setCell (p := ⟨w.heap.size, k * 4 + 1, none⟩) (Nat.le_refl _) (.int .i64 x1)).setCell (p := ⟨w.heap.size, k * 4 + 2, none⟩) (Nat.le_refl _) (.string ⟨x2.toArray⟩)).setCell (p := ⟨w.heap.size, k * 4 + 3, none⟩) (Nat.le_refl _) (.string ⟨x3.toArray⟩)
          clear hrow hrow3 hz0 hz1 hz2 hz3
          go_wp2_with fail
          go_roundw
          case rel => exact ⟨k + 1, by omega, by first | go_num | simp, HA', B4, hs⟩
          case measure => simp [intOf]; omega
      · obtain rfl : k = n := by omega
        have HF : Hid (l.take k = l) := List.take_of_length_le (by have := HN.out; omega)
        have HE : Hid (backE l = (l.filterMap takeE, 0)) := by
          have := HA.out
          rw [HF.out] at this
          exact backE_ok l (by have := HN.out; omega) this
        have HG : Hid ((l.filterMap takeE).length = k) := by
          have := HA.out
          rw [HF.out] at this
          show _ = _
          rw [allTake_len l this, HN.out]
        go_wp2_with fail
        go_ret2
        refine ⟨_, by rw [HE.out]; rfl, hbw, ?_⟩
        rw [HE.out]
        show World.ownsRow _ _ _ _ _ (l.filterMap takeE).length _
        rw [HG.out]
        rw [HF.out, show k - k = 0 by omega, List.replicate_zero, List.append_nil] at hrow
        exact hrow
theorem pleaves_any (h : List Ev) (v : Value) (w : World) (hT : IsEvs w v h) :
    Calls Try.prog 17 #[v] w fun e w' => TxRes w (leavesE h) e w' := by
  have H := peachL_any h v w hT
  obtain ⟨R, hR⟩ : ∃ R, leavesE h = R := ⟨_, rfl⟩
  rw [hR] at H ⊢
  clear hR hT
  go_enter Try.func17, Try.ntmps17
  go_wp2_with fail
  refine H.mono ?_
  rintro e w1 hres
  obtain ⟨r, rfl, hb1, hown⟩ := hres
  go_wp2_with fail
  go_ret2
  exact ⟨r, rfl, hb1, hown⟩
theorem pback_any (l : List (List UInt8)) (v : Value) (w : World) (hT : IsTxt w v l) (hB : ∀ s ∈ l, s.length ≤ 9223372036854770000) :
    Calls Try.prog 19 #[v] w fun e w' => EvRes 23 w (backE l) e w' := by
  have H := peachB_any l v w hT hB
  obtain ⟨R, hR⟩ : ∃ R, backE l = R := ⟨_, rfl⟩
  rw [hR] at H ⊢
  clear hR hT
  go_enter Try.func19, Try.ntmps19
  go_wp2_with fail
  refine H.mono ?_
  rintro e w1 hres
  obtain ⟨r, rfl, hb1, hown⟩ := hres
  go_wp2_with fail
  go_ret2
  exact ⟨r, rfl, hb1, hown⟩
end Go.Proofs.Ytchneiefjjcccaa
