/-
  What cartoucheref09.All and Outer answer.
-/
import Derived.Test.YtljgflgfcbmgiaaZR9At
namespace Go.Proofs.Ytljgflgfcbmgiaa
set_option maxRecDepth 100000
open Go.RowKit
set_option linter.unusedVariables false
attribute [local go_sem] ba_size
def badAt (h : List Ev) (i : Nat) : Option Bd := if (atL h i).1 = 0 then none else some (atL h i)
theorem bads_next (h : List Ev) (k : Nat) : (List.range (k + 1)).filterMap (badAt h) = (List.range k).filterMap (badAt h) ++ (badAt h k).toList := by
  rw [List.range_succ, List.filterMap_append]
  cases hl : badAt h k with
  | none => simp [hl]
  | some x => simp [hl]
theorem atI_nat (h : List Ev) (k : Nat) : atI h (k : Int) = atL h k := by unfold atI; rw [if_pos (by omega), Int.toNat_natCast]
set_option maxHeartbeats 2000000 in
theorem rbads_any (h : List Ev) (v : Value) (w : World) (hT : IsEvs w v h) (hle : h.length ≤ 300) :
    Calls Try.prog 11 #[v] w fun e w' => BdRow 29 w (badsL h) e w' := by
  obtain ⟨i0, hi, hz0, hz1, hz2⟩ := info_parts bad_info
  have C1 := fun (i : Int) W hW => rat_any h v W (hT.below (w' := W) hW) i
  obtain ⟨a, cap, rfl, h1, h2, h3, HC⟩ := hT.reads
  obtain ⟨n, hn⟩ : ∃ n, h.length = n := ⟨_, rfl⟩
  have HN : Hid (h.length = n) := hn
  simp only [hn] at C1
  rw [hn] at h1 h3 hle ⊢
  clear hT hn
  go_enter Try.func11, Try.ntmps11
  go_wp2_with fail
  go_loopw [3, 4] (fun r i wr => ∃ (k c : Nat), k ≤ n ∧ c ≤ k ∧ i = .int .i64 k ∧ Hid (((List.range k).filterMap (badAt h)).length = c) ∧ Below w.heap.size w wr ∧ wr.ownsRow w.heap.size 29 3 r c (recV badV ((List.range k).filterMap (badAt h)))) (fun _ i _ => n - (intOf i).toNat)
  case atStart => exact ⟨0, 0, Nat.zero_le _, Nat.zero_le _, rfl, rfl, Below.refl _ _, World.ownsRow_nil _ _ _ _⟩
  case round =>
    obtain ⟨k, c, hk, hc, rfl, HL, hbw, hrow⟩ := hrel
    by_cases hlt : k < n
    · have D1 := C1 (k : Int)
      rw [atI_nat] at D1
      obtain ⟨⟨y0, y1, y2⟩, hy⟩ : ∃ y, atL h k = y := ⟨_, rfl⟩
      rw [hy] at D1
      by_cases d : y0 = 0
      · have HA : Hid (badAt h k = none) := by show _ = _; unfold badAt; rw [hy, if_pos d]
        have HV : Hid (recV badV ((List.range (k + 1)).filterMap (badAt h)) = recV badV ((List.range k).filterMap (badAt h))) := by show _ = _; rw [bads_next, HA.out, Option.toList_none, List.append_nil]
        have HL' : Hid (((List.range (k + 1)).filterMap (badAt h)).length = c) := by show _ = _; rw [bads_next, HA.out, Option.toList_none, List.append_nil, HL.out]
        have e1 : (y0 != 0) = false := by rw [d]; rfl
        clear d hy
        go_wp2_with fail
        refine (D1 _ hbw).mono ?_
        rintro e w1 ⟨rfl, b1⟩
        have B1 := bel_trans hbw b1
        have O1 := (owns_below hrow b1).alloc (.cells #[.int .i64 y0, .int .i64 y1, .int .i64 y2] 29)
        have B1' := B1.alloc B1.size (.cells #[.int .i64 y0, .int .i64 y1, .int .i64 y2] 29)
        go_wp2_with fail
        refine ⟨?relA, ?meaA⟩
        case relA => exact ⟨k + 1, c, by omega, by omega, by first | go_num | simp, HL', B1', by rw [HV.out]; exact O1⟩
        case meaA => simp [intOf]; omega
      · have HA : Hid (badAt h k = some (y0, y1, y2)) := by show _ = _; unfold badAt; rw [hy, if_neg d]
        have HV : Hid (recV badV ((List.range (k + 1)).filterMap (badAt h)) = recV badV ((List.range k).filterMap (badAt h)) ++ [.int .i64 y0, .int .i64 y1, .int .i64 y2]) := by show _ = _; rw [bads_next, HA.out, recV_append]; rfl
        have HL' : Hid (((List.range (k + 1)).filterMap (badAt h)).length = c + 1) := by show _ = _; rw [bads_next, HA.out, List.length_append, HL.out]; rfl
        have e1 : (y0 != 0) = true := bne_iff_ne.2 d
        obtain ⟨DR, hDR⟩ : ∃ d, recV badV ((List.range k).filterMap (badAt h)) = d := ⟨_, rfl⟩
        rw [hDR] at hrow HV
        clear hDR hy
        go_wp2_with fail
        refine (D1 _ hbw).mono ?_
        rintro e w1 ⟨rfl, b1⟩
        have B1 := bel_trans hbw b1
        have O1 := (owns_below hrow b1).alloc (.cells #[.int .i64 y0, .int .i64 y1, .int .i64 y2] 29)
        have B1' := B1.alloc B1.size (.cells #[.int .i64 y0, .int .i64 y1, .int .i64 y2] 29)
        have sz := B1.size
        go_wp2_with (at_builtin; refine wpList_append_own _ rfl _ _ 25 rfl w.heap.size 29 i0 (.agg #[.int .i64 0, .int .i64 0, .int .i64 0]) 3 24 Try.underlying25 hi hz0 hz1 hz2 rfl (by decide) _ _ _ rfl (O1.alloc _) ⟨w1.heap.size + 1, 0, none⟩ 1 1 [.int .i64 y0, .int .i64 y1, .int .i64 y2] rfl rfl ?d1 ?d2 ?d3 ?d4 ?d5 ?_)
        try
          case d1 =>
            intro j u hj
            match j, hj with
            | 0, hj => simp at hj; subst hj; first | (simp [Addr.add]; done) | exact cell_new7 (by simp) rfl
            | 1, hj => simp at hj; subst hj; first | (simp [Addr.add]; done) | exact cell_new7 (by simp) rfl
            | 2, hj => simp at hj; subst hj; first | (simp [Addr.add]; done) | exact cell_new7 (by simp) rfl
        try
          case d2 => first | exact badV_one (y0, y1, y2) | exact ⟨rfl, rfl, rfl⟩
        try
          case d3 => unfold maxLen; omega
        try
          case d4 => omega
        try
          case d5 => first | (simp; done) | (simp; omega)
        intro v' w3 own3 g3 _
        have B3 : Below w.heap.size w w3 := (B1'.alloc B1'.size _).grown g3 (by have := B1'.size; simp at this ⊢; omega) (fun j hj => (hrow.lt j hj).1)
        go_wp2_with fail
        refine ⟨?relB, ?meaB⟩
        case relB => exact ⟨k + 1, c + 1, by omega, by omega, by first | go_num | simp, HL', B3, by rw [HV.out]; exact own3⟩
        case meaB => simp [intOf]; omega
    · obtain rfl : k = n := by omega
      have HE : Hid (badsL h = (List.range k).filterMap (badAt h)) := by show badsL h = _; unfold badsL; rw [HN.out]; rfl
      go_wp2_with fail
      go_ret
      refine ⟨_, rfl, hbw, ?_⟩
      rw [HE.out, HL.out]
      exact hrow
set_option maxHeartbeats 2000000 in
theorem router_any (h : List Ev) (v : Value) (w : World) (hT : IsEvs w v h) (i : Int) :
    Calls Try.prog 18 #[v, .int .i64 i] w fun e w' => e = .returned (.bool (outerI h i)) ∧ Below w.heap.size w w' := by
  have CC := fun W hW => rcounts_any h v W (hT.below (w' := W) hW) i
  have C2 := fun (t : Int) (k : List UInt8) (b : Int) W hW => rlast_any h v W (hT.below (w' := W) hW) t k b
  obtain ⟨a, cap, rfl, h1, h2, h3, HC⟩ := hT.reads
  obtain ⟨n, hn⟩ : ∃ n, h.length = n := ⟨_, rfl⟩
  have HN : Hid (h.length = n) := hn
  simp only [hn] at CC C2
  rw [hn] at h1 h3 ⊢
  clear hT hn
  by_cases hc : countI h i = true
  · rw [hc] at CC
    have hi0 : 0 ≤ i ∧ countsB h i.toNat = true := by
      unfold countI at hc
      rw [Bool.and_eq_true, decide_eq_true_eq] at hc
      exact hc
    obtain ⟨q, rfl⟩ : ∃ q : Nat, i = (q : Int) := ⟨i.toNat, by omega⟩
    have hcq : countsB h q = true := by have := hi0.2; rwa [Int.toNat_natCast] at this
    have hA : outerI h (q : Int) = decide (lastN h (ev h q).2.1 (ev h q).2.2.1 q = none) := by unfold outerI outerB; rw [Int.toNat_natCast, hcq, decide_eq_true (by omega)]; simp
    rw [hA]
    have hcl := (counts_iff h q).1 hcq
    have HQ1 : Hid (q < h.length) := hcl.1
    have hqn : q < n := by have := HN.out; have := HQ1.out; omega
    obtain ⟨bb, off, rfl, HQ⟩ := HC.out (by have := HQ1.out; omega)
    obtain ⟨⟨x0, x1, x2, x3⟩, hx⟩ : ∃ x, ev h q = x := ⟨_, rfl⟩
    have HX : Hid (ev h q = (x0, x1, x2, x3)) := hx
    simp only [hx]
    have D1 := C2 x1 x2 (q : Int)
    rw [last_upto h x1 x2 q (by have := HQ1.out; omega)] at D1
    clear hx hcl hcq hi0 hc hA
    rcases hl : lastN h x1 x2 q with _ | k
    · rw [hl] at D1
      simp only [oI] at D1
      rw [decide_eq_true (by rfl)]
      clear hl
      go_enter Try.func18, Try.ntmps18
      go_wp2_with fail
      refine (CC _ (Below.refl _ _)).mono ?_
      rintro e w1 ⟨rfl, b1⟩
      obtain ⟨s0, s1, s2, s3⟩ := HQ.out q HQ1.out _ b1
      rw [HX.out] at s0 s1 s2 s3
      simp only at s0 s1 s2 s3
      have S0 : (fun V => Below w1.heap.size w1 V ∧ V.cell? ⟨bb, off + q * 4 + 1, none⟩ = some (.int .i64 x1) ∧ V.cell? ⟨bb, off + q * 4 + 2, none⟩ = some (.string ⟨x2.toArray⟩)) (w1).drew := ⟨(Below.refl _ _).drew, s1, s2⟩
      have keepS : ∀ V V' : World, (fun V => Below w1.heap.size w1 V ∧ V.cell? ⟨bb, off + q * 4 + 1, none⟩ = some (.int .i64 x1) ∧ V.cell? ⟨bb, off + q * 4 + 2, none⟩ = some (.string ⟨x2.toArray⟩)) V → Below V.heap.size V V' → (fun V => Below w1.heap.size w1 V ∧ V.cell? ⟨bb, off + q * 4 + 1, none⟩ = some (.int .i64 x1) ∧ V.cell? ⟨bb, off + q * 4 + 2, none⟩ = some (.string ⟨x2.toArray⟩)) V' := fun V V' ⟨a, b, c⟩ d => ⟨bel_trans a d, cell_bel d b, cell_bel d c⟩
      go_wp2_with fail
      go_region_held3 (fun V => Below w1.heap.size w1 V ∧ V.cell? ⟨bb, off + q * 4 + 1, none⟩ = some (.int .i64 x1) ∧ V.cell? ⟨bb, off + q * 4 + 2, none⟩ = some (.string ⟨x2.toArray⟩)) (first | exact S0 | exact keepS _ _ (by assumption) (by assumption)) (first | (go_at_call 21; refine (D1 _ (bel_trans b1 (And.left (by assumption)))).mono ?_; rintro e' w' ⟨rfl, b8⟩))
      go_wp2_with fail
      go_ret
      exact ⟨rfl, bel_trans b1 (And.left (by assumption))⟩
    · rw [hl] at D1
      simp only [oI] at D1
      have jk : ¬ (k : Int) < 0 := by omega
      rw [decide_eq_false (by simp)]
      clear hl
      go_enter Try.func18, Try.ntmps18
      go_wp2_with fail
      refine (CC _ (Below.refl _ _)).mono ?_
      rintro e w1 ⟨rfl, b1⟩
      obtain ⟨s0, s1, s2, s3⟩ := HQ.out q HQ1.out _ b1
      rw [HX.out] at s0 s1 s2 s3
      simp only at s0 s1 s2 s3
      have S0 : (fun V => Below w1.heap.size w1 V ∧ V.cell? ⟨bb, off + q * 4 + 1, none⟩ = some (.int .i64 x1) ∧ V.cell? ⟨bb, off + q * 4 + 2, none⟩ = some (.string ⟨x2.toArray⟩)) (w1).drew := ⟨(Below.refl _ _).drew, s1, s2⟩
      have keepS : ∀ V V' : World, (fun V => Below w1.heap.size w1 V ∧ V.cell? ⟨bb, off + q * 4 + 1, none⟩ = some (.int .i64 x1) ∧ V.cell? ⟨bb, off + q * 4 + 2, none⟩ = some (.string ⟨x2.toArray⟩)) V → Below V.heap.size V V' → (fun V => Below w1.heap.size w1 V ∧ V.cell? ⟨bb, off + q * 4 + 1, none⟩ = some (.int .i64 x1) ∧ V.cell? ⟨bb, off + q * 4 + 2, none⟩ = some (.string ⟨x2.toArray⟩)) V' := fun V V' ⟨a, b, c⟩ d => ⟨bel_trans a d, cell_bel d b, cell_bel d c⟩
      go_wp2_with fail
      go_region_held3 (fun V => Below w1.heap.size w1 V ∧ V.cell? ⟨bb, off + q * 4 + 1, none⟩ = some (.int .i64 x1) ∧ V.cell? ⟨bb, off + q * 4 + 2, none⟩ = some (.string ⟨x2.toArray⟩)) (first | exact S0 | exact keepS _ _ (by assumption) (by assumption)) (first | (go_at_call 21; refine (D1 _ (bel_trans b1 (And.left (by assumption)))).mono ?_; rintro e' w' ⟨rfl, b8⟩))
      go_wp2_with fail
      go_ret
      exact ⟨rfl, bel_trans b1 (And.left (by assumption))⟩
  · have hcf : countI h i = false := by simpa using hc
    rw [hcf] at CC
    have hA : outerI h i = false := by
      unfold outerI outerB
      unfold countI at hcf
      rw [← Bool.and_assoc, hcf, Bool.false_and]
    rw [hA]
    clear hA hcf hc
    go_enter Try.func18, Try.ntmps18
    go_wp2_with fail
    refine (CC _ (Below.refl _ _)).mono ?_
    rintro e w1 ⟨rfl, b1⟩
    go_wp2_with fail
    go_quiet (fail)
    go_wp2_with fail
    go_ret
    exact ⟨rfl, below_drewN b1 _⟩
end Go.Proofs.Ytljgflgfcbmgiaa
