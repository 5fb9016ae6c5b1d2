/-
  What cartouchelaw11.shown and few answer.
-/
import Derived.Test.YtpfpkpaodlmlaaaGF
namespace Go.Proofs.Ytpfpkpaodlmlaaa
set_option maxRecDepth 100000
open Go.RowKit
set_option linter.unusedVariables false
attribute [local go_sem] ba_size
abbrev sh11 : List Stp := [(1, 2, []), (2, 1, [])]
theorem sh11_ring : ringL sh11 = some sh11 := by kernel_rfl
theorem sh11_order : orderL [2, 1] (sh11.take 1) = some [1, 2] := by decide +kernel
theorem nil_eds (W : World) : IsEds W (.slice none 0 0) [] := IsRec.nil 5 edV W
theorem sh11_of (W : World) : StOf W [(1, 2, .slice none 0 0), (2, 1, .slice none 0 0)] sh11 := ⟨rfl, fun i x s hx hs => by
  match i, hx, hs with
  | 0, hx, hs => simp at hx hs; subst hx hs; exact ⟨rfl, rfl, nil_eds W⟩
  | 1, hx, hs => simp at hx hs; subst hx hs; exact ⟨rfl, rfl, nil_eds W⟩
  | n + 2, hx, hs => simp at hx⟩
theorem StOf.take {W : World} {L' : List SVt} {L : List Stp} (h : StOf W L' L) (k : Nat) : StOf W (L'.take k) (L.take k) := ⟨by rw [List.length_take, List.length_take, h.1], fun i x s hx hs => by
  rw [List.getElem?_take] at hx hs
  split at hx
  · rename_i hi
    rw [if_pos hi] at hs
    exact h.2 i x s hx hs
  · cases hx⟩
set_option maxHeartbeats 2000000 in
theorem shown11_any {nb lb : Nat} (C : P11C nb lb) (hnb : 2 ≤ nb) (hlb : 2 ≤ lb) (w : World) : Calls Try.prog 10 #[] w fun e w' => e = .returned (.bool true) ∧ Below w.heap.size w w' := by
  have O1 := own_lit w 37 3 2 [.int .i64 1, .int .i64 2, .slice none 0 0, .int .i64 2, .int .i64 1, .slice none 0 0] rfl (by omega)
  have B1 := (Below.refl w.heap.size w).alloc (Nat.le_refl _) (.cells #[.int .i64 1, .int .i64 2, .slice none 0 0, .int .i64 2, .int .i64 1, .slice none 0 0] 37)
  have R1 : IsRec 3 stV (w.alloc (.cells #[.int .i64 1, .int .i64 2, .slice none 0 0, .int .i64 2, .int .i64 1, .slice none 0 0] 37)) (.slice (some ⟨w.heap.size, 0, none⟩) 2 2) [(1, 2, .slice none 0 0), (2, 1, .slice none 0 0)] := IsRec.own stV_len (by omega) O1 (by omega)
  have T1 : IsSts (w.alloc (.cells #[.int .i64 1, .int .i64 2, .slice none 0 0, .int .i64 2, .int .i64 1, .slice none 0 0] 37)) (.slice (some ⟨w.heap.size, 0, none⟩) 2 2) sh11 := ⟨_, R1, sh11_of _⟩
  have G1 : ∀ x ∈ sh11, goodSt x := fun x hx => by simp at hx; rcases hx with rfl | rfl <;> (unfold goodSt okS; simp)
  have A1 := C.ring sh11 _ _ T1 (.inr ⟨_, _, _, rfl⟩) G1 hlb
  rw [sh11_ring] at A1
  clear O1
  go_enter Try.func10, Try.ntmps10
  go_wp2_with fail
  refine A1.mono ?_
  clear A1
  rintro e w1 ⟨v, L', rfl, b1, o1, so1⟩
  have B2 := bel_trans B1 b1
  have hl2 : L'.length = 2 := so1.1
  have S1 : IsSts w1 v sh11 := IsSts.own o1 so1 (by omega)
  have O2 := own_lit w1 3 1 2 [.int .i64 2, .int .i64 1] rfl (by omega)
  have b2 := (Below.refl w1.heap.size w1).alloc (Nat.le_refl _) (.cells #[.int .i64 2, .int .i64 1] 3)
  have TN : IsInts (w1.alloc (.cells #[.int .i64 2, .int .i64 1] 3)) (.slice (some ⟨w1.heap.size, 0, none⟩) 2 2) [2, 1] := IsRec.own intV_len (by omega) O2 (by omega)
  have R2 : IsRec 3 stV (w1.alloc (.cells #[.int .i64 2, .int .i64 1] 3)) (.slice (some ⟨w.heap.size, 0, none⟩) 1 2) (([(1, 2, .slice none 0 0), (2, 1, .slice none 0 0)] : List SVt).take 1) := IsRec.take (L := ([(1, 2, Value.slice none 0 0), (2, 1, Value.slice none 0 0)] : List SVt)) (R1.below (bel_trans b1 b2)) 1 (by simp)
  have T2 : IsSts (w1.alloc (.cells #[.int .i64 2, .int .i64 1] 3)) (.slice (some ⟨w.heap.size, 0, none⟩) 1 2) (sh11.take 1) := ⟨_, R2, (sh11_of _).take 1⟩
  have A2 := C.order [2, 1] (sh11.take 1) _ _ _ TN (.inr ⟨_, _, _, rfl⟩) (fun x hx => by simp at hx; rcases hx with rfl | rfl <;> (unfold okS; omega)) T2 (.inr ⟨_, _, _, rfl⟩) (fun x hx => G1 x (List.mem_of_mem_take hx)) hnb (by simp; omega)
  rw [sh11_order] at A2
  clear O2 TN R2 T2 R1 T1
  obtain ⟨av, cv, hv, iv, jv, kv, HS1⟩ := S1.reads
  subst hv
  obtain ⟨bs, os, rfl, u0, _, C0⟩ := HS1.out 0 (by simp)
  go_wp2_with fail
  refine A2.mono ?_
  clear A2
  rintro e w2 ⟨v2, rfl, b3, o2⟩
  have B3 := bel_trans b2 b3
  obtain ⟨c0, _, _⟩ := C0 _ B3
  simp only [Nat.zero_mul, Nat.add_zero, List.getElem_cons_zero] at c0
  have TO : IsInts w2 v2 [1, 2] := IsRec.own (L := [1, 2]) intV_len (by omega) o2 (by simp)
  obtain ⟨ao, co, hvo, io, jo, ko, HO1⟩ := IsInts.reads TO
  subst hvo
  obtain ⟨bo, oo, rfl, HO2⟩ := HO1.out (by simp)
  have d0 := HO2.out 0 (by simp) _ (Below.refl _ _)
  simp at d0
  simp at iv io
  clear HS1 C0 HO1 HO2 TO o2 S1 o1 so1
  go_wp2_with fail
  go_ret
  exact ⟨rfl, bel_trans B2 B3⟩
theorem few11_any (v : Value) (l : List Stp) (w : World) (hT : IsSts w v l) : Calls Try.prog 11 #[v] w fun e w' => e = .returned (.bool (decide (l.length ≤ 120))) ∧ Below w.heap.size w w' := by
  obtain ⟨a, cap, rfl, h1, h2, h3⟩ := hT.len
  obtain ⟨n, hn⟩ : ∃ n, l.length = n := ⟨_, rfl⟩
  rw [hn]
  clear hT hn
  by_cases h : n ≤ 120
  · rw [decide_eq_true h]
    have j : (n : Int) ≤ 120 := by omega
    go_enter Try.func11, Try.ntmps11
    go_wp2_with fail
    go_ret
    exact ⟨rfl, Below.refl _ _⟩
  · rw [decide_eq_false h]
    have j : ¬ (n : Int) ≤ 120 := by omega
    go_enter Try.func11, Try.ntmps11
    go_wp2_with fail
    go_ret
    exact ⟨rfl, Below.refl _ _⟩
end Go.Proofs.Ytpfpkpaodlmlaaa
