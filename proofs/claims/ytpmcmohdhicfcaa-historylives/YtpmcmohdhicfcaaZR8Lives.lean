/-
  What cartoucheref08.Lives answers.
-/
import Derived.Test.YtpmcmohdhicfcaaZR8Life
namespace Go.Proofs.Ytpmcmohdhicfcaa
set_option maxRecDepth 100000
open Go.RowKit
set_option linter.unusedVariables false
attribute [local go_sem] ba_size
def liveAt (h : List Ev) (i : Nat) : Option Lf := if fstL h (ev h i).2.1 i = none then findL h (ev h i).2.1 else none
theorem lives_next (h : List Ev) (k : Nat) : (List.range (k + 1)).filterMap (liveAt h) = (List.range k).filterMap (liveAt h) ++ (liveAt h k).toList := by
  rw [List.range_succ, List.filterMap_append]
  cases hl : liveAt h k with
  | none => simp [hl]
  | some x => simp [hl]
set_option maxHeartbeats 2000000 in
theorem rlives_any (h : List Ev) (v : Value) (w : World) (hT : IsEvs w v h) (hle : h.length ≤ 300) :
    Calls Try.prog 17 #[v] w fun e w' => LfRow 37 w (livesL h) e w' := by
  obtain ⟨i0, hi, hz0, hz1, hz2⟩ := info_parts lif_info
  have C1 := fun (t : Int) (m : Nat) (hm : m ≤ h.length) W hW => rfirst_any h v W (hT.below (w' := W) hW) t m hm
  have C2 := fun (t : Int) W hW => rfind_any h v W (hT.below (w' := W) hW) t
  obtain ⟨a, cap, rfl, h1, h2, h3, HC⟩ := hT.reads
  obtain ⟨n, hn⟩ : ∃ n, h.length = n := ⟨_, rfl⟩
  have HN : Hid (h.length = n) := hn
  rw [hn] at h1 h3 hle ⊢
  simp only [hn] at C1 C2
  clear hT hn
  go_enter Try.func17, Try.ntmps17
  go_wp2_with fail
  go_loopw [3, 4] (fun r i wr => ∃ (k c : Nat), k ≤ n ∧ c ≤ k ∧ i = .int .i64 k ∧ Hid (((List.range k).filterMap (liveAt h)).length = c) ∧ Below w.heap.size w wr ∧ wr.ownsRow w.heap.size 37 4 r c (recV lifV ((List.range k).filterMap (liveAt h)))) (fun _ i _ => n - (intOf i).toNat)
  case atStart => exact ⟨0, 0, Nat.zero_le _, Nat.zero_le _, rfl, rfl, Below.refl _ _, World.ownsRow_nil _ _ _ _⟩
  case round =>
    obtain ⟨k, c, hk, hc, rfl, HL, hbw, hrow⟩ := hrel
    by_cases hlt : k < n
    · have hk1 : k < h.length := by have := HN.out; omega
      obtain ⟨bb, off, rfl, HQ⟩ := HC.out (by omega)
      obtain ⟨c0, c1, c2, c3⟩ := HQ.out k hk1 _ hbw
      obtain ⟨⟨x0, x1, x2, x3⟩, hx⟩ : ∃ x, ev h k = x := ⟨_, rfl⟩
      have HX : Hid (ev h k = (x0, x1, x2, x3)) := hx
      rw [hx] at c0 c1 c2 c3
      simp only at c0 c1 c2 c3
      clear hx
      have D1 := C1 x1 k (by omega)
      have D2 := C2 x1
      by_cases d : fstL h x1 k = none
      · rw [d] at D1
        simp only [oI] at D1
        obtain ⟨⟨y0, y1, y2, y3⟩, hy⟩ : ∃ x, findL h x1 = some x := by have := find_has h k hk1; rw [HX.out] at this; exact this
        have HA : Hid (liveAt h k = some (y0, y1, y2, y3)) := by show _ = _; unfold liveAt; rw [HX.out, if_pos d]; exact hy
        rw [findP_of hy] at D2
        have HV : Hid (recV lifV ((List.range (k + 1)).filterMap (liveAt h)) = recV lifV ((List.range k).filterMap (liveAt h)) ++ [.int .i64 y0, .int .i64 (y1 : Int), .int .i64 (y2 : Int), .bool y3]) := by
          show _ = _
          rw [lives_next, HA.out, recV_append]
          rfl
        have HL' : Hid (((List.range (k + 1)).filterMap (liveAt h)).length = c + 1) := by show _ = _; rw [lives_next, HA.out, List.length_append, HL.out]; rfl
        obtain ⟨DR, hDR⟩ : ∃ d, recV lifV ((List.range k).filterMap (liveAt h)) = d := ⟨_, rfl⟩
        rw [hDR] at hrow HV
        clear hDR hy d
        go_wp2_with fail
        refine (D1 _ hbw).mono ?_
        rintro e w1 ⟨rfl, b1⟩
        have B1 := bel_trans hbw b1
        have m1 := (HQ.out k hk1 _ B1).2.1
        rw [HX.out] at m1
        have O1 := owns_below hrow b1
        go_wp2_with fail
        refine (D2 _ B1).mono ?_
        rintro e w2 ⟨rfl, b2⟩
        have B2 := bel_trans B1 b2
        have O2 := owns_below O1 b2
        have B2' := B2.alloc B2.size (.cells #[.int .i64 y0, .int .i64 (y1 : Int), .int .i64 (y2 : Int), .bool y3] 37)
        have O2' := O2.alloc (.cells #[.int .i64 y0, .int .i64 (y1 : Int), .int .i64 (y2 : Int), .bool y3] 37)
        have sz := B2.size
        go_wp2_with (at_builtin; refine wpList_append_own _ rfl _ _ 31 rfl w.heap.size 37 i0 (.agg #[.int .i64 0, .int .i64 0, .int .i64 0, .bool false]) 4 32 Try.underlying31 hi hz0 hz1 hz2 rfl (by decide) _ _ _ rfl (O2'.alloc _) ⟨w2.heap.size + 1, 0, none⟩ 1 1 [.int .i64 y0, .int .i64 (y1 : Int), .int .i64 (y2 : Int), .bool y3] rfl rfl ?d1 ?d2 ?d3 ?d4 ?d5 ?_)
        try
          case d1 =>
            intro j u hj
            match j, hj with
            | 0, hj => simp at hj; subst hj; first | (simp [Addr.add]; done) | exact cell_new7 (by simp) rfl
            | 1, hj => simp at hj; subst hj; first | (simp [Addr.add]; done) | exact cell_new7 (by simp) rfl
            | 2, hj => simp at hj; subst hj; first | (simp [Addr.add]; done) | exact cell_new7 (by simp) rfl
            | 3, hj => simp at hj; subst hj; first | (simp [Addr.add]; done) | exact cell_new7 (by simp) rfl
        case d2 => first | exact lifV_one (y0, y1, y2, y3) | exact ⟨rfl, rfl, rfl, rfl⟩
        case d3 => unfold maxLen; omega
        case d4 => omega
        case d5 => simp; omega
        intro v' w3 own3 g3 _
        have B3 : Below w.heap.size w w3 := (B2'.alloc B2'.size _).grown g3 (by have := B2'.size; simp at this ⊢; omega) (fun j hj => (hrow.lt j hj).1)
        go_wp2_with fail
        refine ⟨?relA, ?meaA⟩
        case relA => exact ⟨k + 1, c + 1, by omega, by omega, by first | go_num | simp, HL', B3, by rw [HV.out]; exact own3⟩
        case meaA => simp [intOf]; omega
      · obtain ⟨f, hf⟩ := Option.ne_none_iff_exists'.1 d
        rw [hf] at D1
        simp only [oI] at D1
        have HA : Hid (liveAt h k = none) := by show _ = _; unfold liveAt; rw [HX.out, if_neg d]
        have HL' : Hid (((List.range (k + 1)).filterMap (liveAt h)).length = c) := by show _ = _; rw [lives_next, HA.out, Option.toList_none, List.append_nil, HL.out]
        have HV : Hid (recV lifV ((List.range (k + 1)).filterMap (liveAt h)) = recV lifV ((List.range k).filterMap (liveAt h))) := by show _ = _; rw [lives_next, HA.out, Option.toList_none, List.append_nil]
        have jf : ¬ (f : Int) < 0 := by omega
        clear hf d
        go_wp2_with fail
        refine (D1 _ hbw).mono ?_
        rintro e w1 ⟨rfl, b1⟩
        have B1 := bel_trans hbw b1
        have O1 := owns_below hrow b1
        go_wp2_with fail
        refine ⟨?relB, ?meaB⟩
        case relB => exact ⟨k + 1, c, by omega, by omega, by first | go_num | simp, HL', B1, by rw [HV.out]; exact O1⟩
        case meaB => simp [intOf]; omega
    · obtain rfl : k = n := by omega
      have HE : Hid (livesL h = (List.range k).filterMap (liveAt h)) := by show livesL h = _; unfold livesL; rw [HN.out]; rfl
      go_wp2_with fail
      go_ret
      refine ⟨_, rfl, hbw, ?_⟩
      rw [HE.out, HL.out]
      exact hrow
end Go.Proofs.Ytpmcmohdhicfcaa
