/-
  What edges.Nodes answers.
-/
import Derived.Test.YteehpkkkagdckaaGS
import Derived.Test.YteehpkkkagdckaaGE
import Derived.Test.YteehpkkkagdckaaZP8Lives
import Derived.Test.YteehpkkkagdckaaGN
import Derived.Sort.OwnSortedInts
namespace Go.Proofs.Yteehpkkkagdckaa
set_option maxRecDepth 100000
open Go.RowKit Go.Maps Go.Sort
set_option linter.unusedVariables false
attribute [local go_sem] ba_size
theorem intsV_map (L : List Int) : recV intV L = L.map (Value.int .i64) := by
  induction L with
  | nil => rfl
  | cons x l ih => rw [show x :: l = [x] ++ l from rfl, recV_append, ih]; rfl
theorem psortI_own {W : World} {B : Nat} {v : Value} {L : List Int} (h : W.ownsRow B 3 1 v L.length (recV intV L)) (hl : L.length ≤ 1000000) :
    Calls Try.prog 35 #[v] W fun e W1 => e = .returned (.tuple #[]) ∧ W.grownBy W1 v.ownBlock ∧ W1.ownsRow B 3 1 v L.length (recV intV (L.mergeSort fun x y => decide (x ≤ y))) := by
  rcases h.2 with ⟨rfl, h0⟩ | ⟨g, cp, cur, rfl, hbase, hb, k1, k2, k3, k4⟩
  · have hk0 : L = [] := List.length_eq_zero_iff.1 h0
    subst hk0
    refine (psortI_none none 0 W).mono ?_
    rintro e W1 ⟨rfl, rfl⟩
    exact ⟨rfl, World.grownBy.refl _ _, by rw [List.mergeSort_nil]; exact World.ownsRow_nil _ _ _ _⟩
  · rw [intsV_map] at k4
    have hH := holds_of_blockI (ss := L) hb (by simpa using k4)
    have hTS := fun n os => ownsRow_sortedI (w := W) (n := n) (os := os) (ts := L.mergeSort fun x y => decide (x ≤ y)) (ss := L) (by simp) hbase hb k1 k2 k3
    refine (psortI_any g 0 cp L W hH (Array.getElem?_eq_some_iff.1 hb).1 (by omega)).mono ?_
    rintro e w' ⟨r1, nn, os, r2⟩
    refine ⟨r1, by rw [r2]; exact grownBy_sortedI _, ?_⟩
    rw [r2, intsV_map]
    exact hTS nn os
theorem IsLfs.at {W : World} {v : Value} {L : List Lf} (h : IsRec 4 lifV W v L) : ∃ a cap, v = .slice a L.length cap ∧ L.length ≤ cap ∧ cap ≤ 9223372036854775807 ∧
    Hid (∀ k (hk : k < L.length), ∃ b off, a = some ⟨b, off, none⟩ ∧ ∀ V, Below W.heap.size W V → V.cell? ⟨b, off + k * 4, none⟩ = some (.int .i64 L[k].1) ∧ V.cell? ⟨b, off + k * 4 + 1, none⟩ = some (.int .i64 (L[k].2.1 : Int)) ∧ V.cell? ⟨b, off + k * 4 + 2, none⟩ = some (.int .i64 (L[k].2.2.1 : Int)) ∧ V.cell? ⟨b, off + k * 4 + 3, none⟩ = some (.bool L[k].2.2.2)) := by
  obtain ⟨a, cap, rfl, h1, h2, h3, HC⟩ := h.some_at
  refine ⟨a, cap, rfl, h1, h2, ?_⟩
  intro k hk
  obtain ⟨b, off, rfl, hlt, hc⟩ := HC.out k hk
  refine ⟨b, off, rfl, fun V hV => ?_⟩
  exact ⟨(hV.cell (p := ⟨b, off + k * 4, none⟩) hlt).trans (hc 0 _ rfl), (hV.cell (p := ⟨b, off + k * 4 + 1, none⟩) hlt).trans (hc 1 _ rfl), (hV.cell (p := ⟨b, off + k * 4 + 2, none⟩) hlt).trans (hc 2 _ rfl), (hV.cell (p := ⟨b, off + k * 4 + 3, none⟩) hlt).trans (hc 3 _ rfl)⟩
set_option maxHeartbeats 4000000 in
theorem pnodes10_any (h : List Ev) (v : Value) (w : World) (hT : IsEvs w v h) (hG : ∀ x ∈ h, goodE x) (hf : fewH h) :
    Calls Try.prog 16 #[v] w fun e w' => InRow w (nodeL h) e w' := by
  have CL := plives8_any h v w hT hG (by have := hf.2; omega)
  have HS := node_sorted h hf.1
  have hll := lives_len h
  have hh := hf.2
  obtain ⟨a, cap, rfl, _⟩ := hT.some_at
  obtain ⟨L, hL⟩ : ∃ L, livesL h = L := ⟨_, rfl⟩
  rw [hL] at CL HS hll
  have HSS : Hid ((cmF L).mergeSort (fun x y => decide (x ≤ y)) = nodeL h) := HS
  clear HS hL hf hT hG
  go_enter Try.func16, Try.ntmps16
  go_wp2_with fail
  refine CL.mono ?_
  rintro e1 w1 ⟨v1, rfl, b1, ho1⟩
  have hR := IsRec.own lifV_len (by omega) ho1 (by omega)
  obtain ⟨a1, cap1, rfl, q1, q2, HQ⟩ := IsLfs.at hR
  clear hR CL ho1
  obtain ⟨n, hn⟩ : ∃ n, L.length = n := ⟨_, rfl⟩
  have HN : Hid (L.length = n) := hn
  rw [hn] at q1 hll ⊢
  clear hn
  go_wp2_with fail
  go_loopw [3, 9] (fun r i wr => ∃ k c : Nat, k ≤ n ∧ c ≤ k ∧ i = .int .i64 k ∧ Hid ((cmF (L.take k)).length = c) ∧ Below w.heap.size w wr ∧ Hid (∀ V, Below wr.heap.size wr V → Below w1.heap.size w1 V) ∧ (∀ g, r.ownBlock = some g → w1.heap.size ≤ g) ∧ wr.ownsRow w.heap.size 3 1 r c (recV intV (cmF (L.take k)))) (fun _ i _ => n - (intOf i).toNat)
  case atStart => exact ⟨0, 0, Nat.zero_le _, Nat.le_refl _, rfl, rfl, b1, fun V hV => hV, fun g hg => by simp [Value.ownBlock] at hg, World.ownsRow_nil _ _ _ _⟩
  case round =>
    obtain ⟨k, c, hk, hc, rfl, HL, hbw, HB, far, hrow⟩ := hrel
    obtain ⟨ad, cc, rfl⟩ := own_shape hrow
    by_cases hlt : k < n
    · have hk1 : Hid (k < L.length) := by show k < _; rw [HN.out]; exact hlt
      have j0 : (k : Int) < (n : Int) := by omega
      obtain ⟨bb, off, rfl, HC⟩ := HQ.out k hk1.out
      obtain ⟨x0, x1, x2, x3⟩ := HC wr (HB.out wr (Below.refl _ _))
      have hy := cmF_yes L k hk1.out
      have hno := cmF_no L k hk1.out
      obtain ⟨⟨y0, y1, y2, y3⟩, he⟩ : ∃ x, L[k]'hk1.out = x := ⟨_, rfl⟩
      rw [he] at x0 x1 x2 x3 hy hno
      simp only at x0 x1 x2 x3 hy hno
      clear he HC
      cases y3 with
      | true =>
        have HY : Hid (cmF (L.take (k + 1)) = cmF (L.take k) ++ [y0]) := hy rfl
        have XE := SBox.new wr 44 #[.int .i64 y0, .int .i64 (y1 : Int), .int .i64 (y2 : Int), .bool true]
        have BE := hbw.alloc hbw.size (.cells #[.int .i64 y0, .int .i64 (y1 : Int), .int .i64 (y2 : Int), .bool true] 44)
        have hrowE := hrow.alloc (.cells #[.int .i64 y0, .int .i64 (y1 : Int), .int .i64 (y2 : Int), .bool true] 44)
        have t0 := XE.cell 0 _ rfl
        have t3 := XE.cell 3 _ rfl
        have s1 := (HB.out wr (Below.refl _ _)).size
        clear hy hno
        go_wp2_with fail
        refine (pbhI_any _ c _ y0 w.heap.size _ hrowE (by have := BE.size; omega) (by omega)).mono ?_
        rintro e2 w3 ⟨r3, rfl, hown3, hg3, hat3⟩
        have B3 : Below w.heap.size w w3 := BE.grown hg3 (by have := BE.size; omega) (fun j hj => own_far hrowE j hj)
        have far3 : ∀ g, r3.ownBlock = some g → w1.heap.size ≤ g := fun g hg => by
          rcases hat3 with e | ⟨g', e, e2⟩
          · exact far g (by rw [← e]; exact hg)
          · rw [hg] at e; cases e; simp at e2; omega
        have HB3 : Hid (∀ V, Below w3.heap.size w3 V → Below w1.heap.size w1 V) := fun V hV => by
          have g1 := ((HB.out wr (Below.refl _ _)).alloc s1 (.cells #[.int .i64 y0, .int .i64 (y1 : Int), .int .i64 (y2 : Int), .bool true] 44)).grown hg3 (by simp; omega) (fun j hj => far j hj)
          exact bel_trans g1 hV
        go_wp2_with fail
        refine ⟨⟨k + 1, c + 1, by omega, by omega, by first | go_num | simp, by show _ = _; rw [HY.out, List.length_append, HL.out]; rfl, B3, HB3, far3, by rw [HY.out, recV_append]; exact hown3⟩, by simp [intOf]; omega⟩
      | false =>
        have HY : Hid (cmF (L.take (k + 1)) = cmF (L.take k)) := hno rfl
        have XE := SBox.new wr 44 #[.int .i64 y0, .int .i64 (y1 : Int), .int .i64 (y2 : Int), .bool false]
        have BE := hbw.alloc hbw.size (.cells #[.int .i64 y0, .int .i64 (y1 : Int), .int .i64 (y2 : Int), .bool false] 44)
        have hrowE := hrow.alloc (.cells #[.int .i64 y0, .int .i64 (y1 : Int), .int .i64 (y2 : Int), .bool false] 44)
        have t0 := XE.cell 0 _ rfl
        have t3 := XE.cell 3 _ rfl
        have s1 := (HB.out wr (Below.refl _ _)).size
        have HB3 : Hid (∀ V, Below (wr.alloc (.cells #[.int .i64 y0, .int .i64 (y1 : Int), .int .i64 (y2 : Int), .bool false] 44)).heap.size (wr.alloc (.cells #[.int .i64 y0, .int .i64 (y1 : Int), .int .i64 (y2 : Int), .bool false] 44)) V → Below w1.heap.size w1 V) := fun V hV => HB.out V (bel_trans ((Below.refl _ _).alloc (Nat.le_refl _) _) hV)
        clear hy hno
        go_wp2_with fail
        refine ⟨⟨k + 1, c, by omega, by omega, by first | go_num | simp, by show _ = _; rw [HY.out]; exact HL.out, BE, HB3, far, by rw [HY.out]; exact hrowE⟩, by simp [intOf]; omega⟩
    · obtain rfl : k = n := by omega
      have jq : ¬ (k : Int) < (k : Int) := by omega
      have HT : Hid (cmF (L.take k) = cmF L) := by show _ = _; rw [← HN.out, List.take_length]
      have hrow2 := hrow
      have hL2 := HL.out
      rw [HT.out] at hrow2 hL2
      rw [← hL2] at hrow2
      have C := psortI_own hrow2 (by omega)
      rw [HSS.out, hL2] at C
      clear hrow2
      go_wp2_with fail
      refine C.mono ?_
      rintro e2 w3 ⟨rfl, hg, hT1⟩
      have hLen : (nodeL h).length = c := by rw [← HSS.out, List.length_mergeSort, hL2]
      have B3 : Below w.heap.size w w3 := hbw.grown hg hbw.size (fun j hj => own_far hrow j hj)
      go_wp2_with fail
      go_ret
      refine ⟨_, rfl, B3, ?_⟩
      rw [hLen]
      exact hT1
end Go.Proofs.Yteehpkkkagdckaa
